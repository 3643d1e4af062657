import PyProof.Rows.All
import Wide.All
import OpenK.AllK
import Wide.FinOn
import HandS.ForExc
import HandS.Comp
import HandS.Iter
import HandS.Text
import HandS.Wide
import HandS.IsInst
import HandS.Style
import HandS.Gcd
import HandS.Deep
import HandS.CallSlots
import HandS.TupAny
import HandS.StrMore
import HandS.Walk
import HandS.Zip
import HandS.Rev
import HandS.ExcInit
import HandS.ExcCtx
import HandS.HotCalls
import HandS.ExcIs
import HandS.ExcField
import KE.KExcIs
import HandS.Star
import HandS.Defaults
import HandS.EndBits
import HandS.RevTup
import HandS.FStr
import HandS.RaiseMore
import KE.GoesMore
import KE.GoesEnum
import KE.GoesEnumKw
import HandS.SortKw
import HandS.Strs
import HandS.SetFor
import HandS.More
import KE.DataCmp
import KE.DataMinMax
import PySem.Challenge.RW_bellrest_k03_spans_met_and_covered
section
set_option Elab.async false
set_option linter.all false
set_option maxRecDepth 100000
/-! Z: plain data D, a store of cells, and denotations of expressions and statements over them; each is held against the layer's readings once. -/
namespace Z
open PySem PySem.Spec PyProof.Rows L2

/-- plain data; ref n: the n-th cell of the store -/
inductive D where
  | non | bl (b : Bool) | int (i : Int) | str (x : Str) | tup (xs : List D) | lst (xs : List D) | frz (xs : List D) | ref (n : Nat)
  | err (a dd : Addr) (ks : List Str) (xs : List D)

inductive Cell where
  | lst (xs : List D)

abbrev Sto := List Cell
abbrev Env := List (Option D)

inductive R (α : Type) where
  | ok (a : α) (S : Sto)
  | ex (c : Str) (fs : List (Str × D)) (S : Sto)
  | bad

def R.bind {α β : Type} (r : R α) (k : α → Sto → R β) : R β := match r with
  | .ok a S => k a S
  | .ex c fs S => .ex c fs S
  | .bad => .bad
theorem R.bind_ok {α β : Type} {a : α} {S : Sto} {k : α → Sto → R β} : (R.ok a S).bind k = k a S := rfl
theorem R.bind_ex {α β : Type} {c : Str} {fs : List (Str × D)} {S : Sto} {k : α → Sto → R β} : (R.ex c fs S : R α).bind k = .ex c fs S := rfl
theorem R.bind_bad {α β : Type} {k : α → Sto → R β} : (R.bad : R α).bind k = .bad := rfl

/-! ### sizes that are asked (never reckoned out) -/
def Fit (n : Nat) : Prop := n ≤ sizeLine
def FitS (n : Nat) : Prop := n < sizeLine
noncomputable instance (n : Nat) : Decidable (Fit n) := Classical.propDecidable _
noncomputable instance (n : Nat) : Decidable (FitS n) := Classical.propDecidable _

/-! ### data and the heap -/
/-- the cells' addresses; addresses that no data may lean on -/
structure Em where
  c : List Addr
  b : List Addr
def Em.has (ι : Em) (a : Addr) : Prop := a ∈ ι.c ∨ a ∈ ι.b
/-- a tuple, a list of the written part -/
def StT (K : PySem.W.Frag) (a : Addr) (xs : List V) : Prop :=
  ∃ (o : Obj) (its : Array Value) (n : Nat), K.lookup a = some o ∧ o.cls = .type "tuple" ∧ o.data = .seq its n ∧ its.size ≤ sizeLine ∧ Vals xs its.toList
def StL (K : PySem.W.Frag) (a : Addr) (xs : List V) : Prop :=
  ∃ (o : Obj) (its : Array Value) (n : Nat), K.lookup a = some o ∧ o.cls = .type "list" ∧ o.dict = none ∧ o.data = .seq its n ∧ its.size ≤ sizeLine ∧ Vals xs its.toList

mutual
inductive Rp (K : PySem.W.Frag) (H : Hp) (ι : Em) : V → D → Prop
  | non : Rp K H ι .non .non
  | bl (b : Bool) : Rp K H ι (.bl b) (.bl b)
  | int (i : Int) : Rp K H ι (.int i) (.int i)
  | str (x : Str) : Rp K H ι (.str x) (.str x)
  | tup {a : Addr} {vs : List V} {ds : List D} : ¬ ι.has a → H a = some (.tup vs) → Rps K H ι vs ds → Rp K H ι (.ref a) (.tup ds)
  | tupK {a : Addr} {vs : List V} {ds : List D} : StT K a vs → Rps K H ι vs ds → Rp K H ι (.ref a) (.tup ds)
  | lst {a : Addr} {vs : List V} {ds : List D} : ¬ ι.has a → H a = some (.lst vs) → Rps K H ι vs ds → Rp K H ι (.ref a) (.lst ds)
  | frz {a : Addr} {o : Obj} {vs : List V} {ds : List D} : ¬ ι.has a → H a = some (.frz o (.lst vs)) → Rps K H ι vs ds → Rp K H ι (.ref a) (.frz ds)
  | frzK {a : Addr} {vs : List V} {ds : List D} : StL K a vs → Rps K H ι vs ds → Rp K H ι (.ref a) (.frz ds)
  | ref {a : Addr} {n : Nat} : ι.c[n]? = some a → Rp K H ι (.ref a) (.ref n)
  | err {a dd : Addr} {ks : List Str} {vs : List V} {ds : List D} : ¬ ι.has dd → H dd = some (.xd (ks.zip vs)) → Rps K H ι vs ds → Rp K H ι (.ref a) (.err a dd ks ds)
inductive Rps (K : PySem.W.Frag) (H : Hp) (ι : Em) : List V → List D → Prop
  | nil : Rps K H ι [] []
  | cons {v : V} {vs : List V} {d : D} {ds : List D} : Rp K H ι v d → Rps K H ι vs ds → Rps K H ι (v :: vs) (d :: ds)
end

/-- the heap goes on: new cells, all else as it stood -/
structure Ext (ι : Em) (H : Hp) (ι' : Em) (H' : Hp) : Prop where
  ban : ∃ nb, ι'.b = nb ++ ι.b ∧ ∀ p ∈ nb, H p = none
  pre : ∃ new, ι'.c = ι.c ++ new ∧ ∀ p ∈ new, H p = none
  keep : ∀ a o, a ∉ ι.c → H a = some o → H' a = some o

theorem Ext.refl {ι : Em} {H : Hp} : Ext ι H ι H := ⟨⟨[], rfl, by simp⟩, ⟨[], by simp, by simp⟩, fun _ _ _ h => h⟩
theorem Ext.outC {ι ι' : Em} {H H' : Hp} {a : Addr} {o : HO} (e : Ext ι H ι' H') (h : a ∉ ι.c) (ha : H a = some o) : a ∉ ι'.c := by
  obtain ⟨new, e1, hn⟩ := e.pre
  rw [e1]
  intro hm
  rcases List.mem_append.mp hm with hm | hm
  · exact h hm
  · rw [hn a hm] at ha; cases ha
theorem Ext.out {ι ι' : Em} {H H' : Hp} {a : Addr} {o : HO} (e : Ext ι H ι' H') (h : ¬ ι.has a) (ha : H a = some o) : ¬ ι'.has a := by
  rintro (hm | hm)
  · exact e.outC (fun z => h (.inl z)) ha hm
  · obtain ⟨nb, e2, hn⟩ := e.ban
    rw [e2] at hm
    rcases List.mem_append.mp hm with hm | hm
    · rw [hn a hm] at ha; cases ha
    · exact h (.inr hm)
theorem Ext.back {ι ι' : Em} {H H' : Hp} {a : Addr} (e : Ext ι H ι' H') (hd : ∀ b ∈ ι.c, H' b ≠ none) (h : H' a = none) : H a = none := by
  cases q : H a with
  | none => rfl
  | some o =>
    by_cases hm : a ∈ ι.c
    · exact absurd h (hd a hm)
    · rw [e.keep a o hm q] at h; cases h
theorem Ext.get {ι ι' : Em} {H H' : Hp} {a : Addr} {n : Nat} (e : Ext ι H ι' H') (h : ι.c[n]? = some a) : ι'.c[n]? = some a := by
  obtain ⟨new, e1, _⟩ := e.pre
  have hl : n < ι.c.length := (List.getElem?_eq_some_iff.mp h).1
  rw [e1, List.getElem?_append_left hl]; exact h

mutual
theorem Rp.ext {K : PySem.W.Frag} {ι ι' : Em} {H H' : Hp} (e : Ext ι H ι' H') : ∀ {v : V} {d : D}, Rp K H ι v d → Rp K H' ι' v d
  | _, _, .non => .non
  | _, _, .bl b => .bl b
  | _, _, .int i => .int i
  | _, _, .str x => .str x
  | _, _, .tup hn hr hs => .tup (e.out hn hr) (e.keep _ _ (fun z => hn (.inl z)) hr) (Rps.ext e hs)
  | _, _, .tupK h hs => .tupK h (Rps.ext e hs)
  | _, _, .lst hn hr hs => .lst (e.out hn hr) (e.keep _ _ (fun z => hn (.inl z)) hr) (Rps.ext e hs)
  | _, _, .frz hn hr hs => .frz (e.out hn hr) (e.keep _ _ (fun z => hn (.inl z)) hr) (Rps.ext e hs)
  | _, _, .frzK h hs => .frzK h (Rps.ext e hs)
  | _, _, .ref h => .ref (e.get h)
  | _, _, .err hn hr hs => .err (e.out hn hr) (e.keep _ _ (fun z => hn (.inl z)) hr) (Rps.ext e hs)
theorem Rps.ext {K : PySem.W.Frag} {ι ι' : Em} {H H' : Hp} (e : Ext ι H ι' H') : ∀ {vs : List V} {ds : List D}, Rps K H ι vs ds → Rps K H' ι' vs ds
  | _, _, .nil => .nil
  | _, _, .cons h hs => .cons (Rp.ext e h) (Rps.ext e hs)
end
section
variable {K : PySem.W.Frag} {ι ι' : Em} {H H' : Hp}
theorem Rps.length {vs : List V} {ds : List D} (h : Rps K H ι vs ds) : vs.length = ds.length := by
  induction vs generalizing ds with
  | nil => cases h; rfl
  | cons v vs ih => cases h with | cons h hs => simp [ih hs]
theorem Rps.get {vs : List V} {ds : List D} {i : Nat} {d : D} (h : Rps K H ι vs ds) (e : ds[i]? = some d) : ∃ v, vs[i]? = some v ∧ Rp K H ι v d := by
  induction vs generalizing ds i with
  | nil => cases h; simp at e
  | cons v vs ih =>
    cases h with
    | cons h hs =>
      cases i with
      | zero => simp at e; subst e; exact ⟨v, by simp, h⟩
      | succ i => simpa using ih hs (by simpa using e)
theorem Rps.getV {vs : List V} {ds : List D} {i : Nat} {v : V} (h : Rps K H ι vs ds) (e : vs[i]? = some v) : ∃ d, ds[i]? = some d ∧ Rp K H ι v d := by
  have hl := h.length
  have hi : i < ds.length := by rw [← hl]; exact (List.getElem?_eq_some_iff.mp e).1
  obtain ⟨w, e1, r⟩ := h.get (List.getElem?_eq_getElem hi)
  rw [e] at e1; cases e1
  exact ⟨_, List.getElem?_eq_getElem hi, r⟩
theorem Rps.append {vs ws : List V} {ds es : List D} (h : Rps K H ι vs ds) (h2 : Rps K H ι ws es) : Rps K H ι (vs ++ ws) (ds ++ es) := by
  induction vs generalizing ds with
  | nil => cases h; simpa using h2
  | cons v vs ih => cases h with | cons h hs => exact .cons h (ih hs)
theorem Rps.take {vs : List V} {ds : List D} (n : Nat) (h : Rps K H ι vs ds) : Rps K H ι (vs.take n) (ds.take n) := by
  induction n generalizing vs ds with
  | zero => simpa using Rps.nil
  | succ n ih => cases h with
    | nil => simpa using Rps.nil
    | cons h hs => simpa using Rps.cons h (ih hs)
theorem Rps.drop {vs : List V} {ds : List D} (n : Nat) (h : Rps K H ι vs ds) : Rps K H ι (vs.drop n) (ds.drop n) := by
  induction n generalizing vs ds with
  | zero => simpa using h
  | succ n ih => cases h with
    | nil => simpa using Rps.nil
    | cons h hs => simpa using ih hs
theorem Rps.reverse {vs : List V} {ds : List D} (h : Rps K H ι vs ds) : Rps K H ι vs.reverse ds.reverse := by
  induction vs generalizing ds with
  | nil => cases h; simpa using Rps.nil
  | cons v vs ih => cases h with
    | cons h hs => simpa using (ih hs).append (.cons h .nil)
theorem Rps.set {vs : List V} {ds : List D} {v : V} {d : D} (n : Nat) (h : Rps K H ι vs ds) (r : Rp K H ι v d) : Rps K H ι (vs.set n v) (ds.set n d) := by
  induction vs generalizing ds n with
  | nil => cases h; simpa using Rps.nil
  | cons w vs ih => cases h with
    | cons h hs => cases n with
      | zero => simpa using Rps.cons r hs
      | succ n => simpa using Rps.cons h (ih n hs)
/-- a list of data that is read -/
inductive SeqOf (K : PySem.W.Frag) (H : Hp) (ι : Em) (a : Addr) (vs : List V) : Prop
  | l : SqL K H a vs → SeqOf K H ι a vs
  | t : SqT K H a vs → SeqOf K H ι a vs
theorem Rp.tup_inv {v : V} {ds : List D} (h : Rp K H ι v (.tup ds)) : ∃ a vs, v = .ref a ∧ SqT K H a vs ∧ Rps K H ι vs ds := by
  cases h with
  | tup h1 h2 h3 => exact ⟨_, _, rfl, .inl (.inl h2), h3⟩
  | tupK h1 h3 => exact ⟨_, _, rfl, .inr h1, h3⟩
theorem Rp.lst_inv {v : V} {ds : List D} (h : Rp K H ι v (.lst ds)) : ∃ a vs, v = .ref a ∧ ¬ ι.has a ∧ H a = some (.lst vs) ∧ Rps K H ι vs ds := by
  cases h with
  | lst h1 h2 h3 => exact ⟨_, _, rfl, h1, h2, h3⟩
theorem Rp.frz_inv {v : V} {ds : List D} (h : Rp K H ι v (.frz ds)) : ∃ a vs, v = .ref a ∧ SqL K H a vs ∧ Rps K H ι vs ds := by
  cases h with
  | frz h1 h2 h3 => exact ⟨_, _, rfl, .inl (.inr ⟨_, h2⟩), h3⟩
  | frzK h1 h3 => exact ⟨_, _, rfl, .inr h1, h3⟩
theorem Rp.int_inv {v : V} {i : Int} (h : Rp K H ι v (.int i)) : v = .int i := by cases h; rfl
theorem Rp.bl_inv {v : V} {i : Bool} (h : Rp K H ι v (.bl i)) : v = .bl i := by cases h; rfl
theorem Rp.str_inv {v : V} {i : Str} (h : Rp K H ι v (.str i)) : v = .str i := by cases h; rfl
theorem Rp.non_inv {v : V} (h : Rp K H ι v .non) : v = .non := by cases h; rfl
theorem Rp.ref_inv {v : V} {n : Nat} (h : Rp K H ι v (.ref n)) : ∃ a, v = .ref a ∧ ι.c[n]? = some a := by cases h with | ref h => exact ⟨_, rfl, h⟩
end

/-! ### the store -/
def CellOk (K : PySem.W.Frag) (H : Hp) (ι : Em) (a : Addr) : Cell → Prop
  | .lst ds => ∃ vs, H a = some (.lst vs) ∧ Rps K H ι vs ds
structure Sr (K : PySem.W.Frag) (H : Hp) (ι : Em) (S : Sto) : Prop where
  len : ι.c.length = S.length
  nd : ι.c.Nodup
  ban : ∀ b ∈ ι.b, H b ≠ none
  cell : ∀ (n : Nat) (a : Addr) (c : Cell), ι.c[n]? = some a → S[n]? = some c → CellOk K H ι a c
section
variable {K : PySem.W.Frag} {ι ι' ι2 : Em} {H H' H2 : Hp} {S S' : Sto}
theorem CellOk.some {a : Addr} {c : Cell} (h : CellOk K H ι a c) : H a ≠ none := by
  cases c with
  | lst ds => obtain ⟨vs, e, _⟩ := h; rw [e]; simp
theorem Sr.dom (h : Sr K H ι S) : ∀ b ∈ ι.c, H b ≠ none := fun b hb => by
  obtain ⟨n, hn, e⟩ := List.getElem_of_mem hb
  have h2 : n < S.length := by rw [← h.len]; exact hn
  have e1 : ι.c[n]? = some b := by rw [List.getElem?_eq_getElem hn, e]
  exact (h.cell n b _ e1 (List.getElem?_eq_getElem h2)).some
theorem Sr.outC (h : Sr K H ι S) {p : Addr} (hp : H p = none) : p ∉ ι.c := fun hm => h.dom p hm hp
theorem Sr.out (h : Sr K H ι S) {p : Addr} (hp : H p = none) : ¬ ι.has p := by
  rintro (hm | hm)
  · exact h.dom p hm hp
  · exact h.ban p hm hp
theorem Ext.trans (a : Ext ι H ι' H') (b : Ext ι' H' ι2 H2) (hd : ∀ b ∈ ι.c, H' b ≠ none) : Ext ι H ι2 H2 := by
  obtain ⟨n1, e1, f1⟩ := a.pre
  obtain ⟨n2, e2, f2⟩ := b.pre
  obtain ⟨m1, g1, k1⟩ := a.ban
  obtain ⟨m2, g2, k2⟩ := b.ban
  refine ⟨⟨m2 ++ m1, by rw [g2, g1, List.append_assoc], fun p hp => ?_⟩, ⟨n1 ++ n2, by rw [e2, e1, List.append_assoc], fun p hp => ?_⟩, fun c o hc ho => b.keep c o (a.outC hc ho) (a.keep c o hc ho)⟩
  · rcases List.mem_append.mp hp with hp | hp
    · exact a.back hd (k2 p hp)
    · exact k1 p hp
  · rcases List.mem_append.mp hp with hp | hp
    · exact f1 p hp
    · exact a.back hd (f2 p hp)
theorem Ext.dom (a : Ext ι H ι' H') (s : Sr K H' ι' S') : ∀ b ∈ ι.c, H' b ≠ none := fun b hb => by
  obtain ⟨n1, e1, _⟩ := a.pre
  exact s.dom b (by rw [e1]; exact List.mem_append_left _ hb)
theorem Ext.tr (a : Ext ι H ι' H') (s : Sr K H' ι' S') (b : Ext ι' H' ι2 H2) : Ext ι H ι2 H2 := a.trans b (a.dom s)
/-- a new object that is no cell -/
theorem Ext.new {p : Addr} {o : HO} (hp : H p = none) : Ext ι H ι (upd H p o) := ⟨⟨[], rfl, by simp⟩, ⟨[], by simp, by simp⟩, fun a u _ h => by rw [upd_ne (ne_of_none h hp)]; exact h⟩
theorem CellOk.ext {a : Addr} {c : Cell} (e : Ext ι H ι' H') (h : CellOk K H ι a c) (k : H' a = H a) : CellOk K H' ι' a c := by
  cases c with
  | lst ds => obtain ⟨vs, e1, r⟩ := h; exact ⟨vs, by rw [k]; exact e1, r.ext e⟩
theorem upd_some {p b : Addr} {o : HO} (h : H b ≠ none) : upd H p o b ≠ none := by
  by_cases e : b = p
  · subst e; rw [upd_same]; simp
  · rw [upd_ne e]; exact h
theorem Sr.new {p : Addr} {o : HO} (h : Sr K H ι S) (hp : H p = none) : Sr K (upd H p o) ι S := ⟨h.len, h.nd, fun b hb => upd_some (h.ban b hb), fun n a c e1 e2 => (h.cell n a c e1 e2).ext (Ext.new hp) (upd_ne (by
  intro q; subst q; exact (h.cell n a c e1 e2).some hp))⟩
/-- a new cell -/
def Em.push (ι : Em) (p : Addr) : Em := ⟨ι.c ++ [p], ι.b⟩
theorem Ext.newC {p : Addr} {o : HO} (hp : H p = none) : Ext ι H (ι.push p) (upd H p o) := ⟨⟨[], rfl, by simp⟩, ⟨[p], rfl, by simpa using hp⟩, fun a u _ h => by rw [upd_ne (ne_of_none h hp)]; exact h⟩
theorem Sr.newC {p : Addr} {vs : List V} {ds : List D} (h : Sr K H ι S) (hp : H p = none) (r : Rps K H ι vs ds) : Sr K (upd H p (.lst vs)) (ι.push p) (S ++ [.lst ds]) := by
  refine ⟨by simp [Em.push, h.len], ?_, fun b hb => upd_some (h.ban b hb), fun n a c e1 e2 => ?_⟩
  · show (ι.c ++ [p]).Nodup
    rw [List.nodup_append]
    exact ⟨h.nd, by simp, fun a ha b hb => by simp at hb; subst hb; exact fun q => h.outC hp (q ▸ ha)⟩
  · replace e1 : (ι.c ++ [p])[n]? = some a := e1
    by_cases hn : n < ι.c.length
    · rw [List.getElem?_append_left hn] at e1
      rw [List.getElem?_append_left (by rw [← h.len]; exact hn)] at e2
      exact (h.cell n a c e1 e2).ext (Ext.newC hp) (upd_ne (by intro q; subst q; exact (h.cell n a c e1 e2).some hp))
    · have hn2 : n = ι.c.length := by
        have := (List.getElem?_eq_some_iff.mp e1).1
        simp at this; omega
      subst hn2
      rw [List.getElem?_append_right (Nat.le_refl _)] at e1
      rw [h.len, List.getElem?_append_right (Nat.le_refl _)] at e2
      simp at e1 e2
      subst e1; subst e2
      exact ⟨vs, upd_same, r.ext (Ext.newC hp)⟩
/-- a list cell's new content -/
theorem Ext.put {p : Addr} {n : Nat} {o : HO} (hp : ι.c[n]? = some p) : Ext ι H ι (upd H p o) := ⟨⟨[], rfl, by simp⟩, ⟨[], by simp, by simp⟩, fun a u ha h => by
  rw [upd_ne (fun q => ha (by rw [q]; exact List.mem_of_getElem? hp))]; exact h⟩
theorem Sr.put {p : Addr} {n : Nat} {vs : List V} {ds : List D} (h : Sr K H ι S) (hp : ι.c[n]? = some p) (r : Rps K H ι vs ds) : Sr K (upd H p (.lst vs)) ι (S.set n (.lst ds)) := by
  refine ⟨by simp [h.len], h.nd, fun b hb => upd_some (h.ban b hb), fun m a c e1 e2 => ?_⟩
  by_cases hm : m = n
  · subst hm
    rw [hp] at e1; cases e1
    have hl : m < S.length := by rw [← h.len]; exact (List.getElem?_eq_some_iff.mp hp).1
    rw [List.getElem?_set_self hl] at e2
    cases e2
    exact ⟨vs, upd_same, r.ext (Ext.put hp)⟩
  · rw [List.getElem?_set_ne (Ne.symm hm)] at e2
    refine (h.cell m a c e1 e2).ext (Ext.put hp) (upd_ne ?_)
    intro q
    subst q
    exact hm (nd_ix h.nd e1 hp)
/-! ### an address that no data leans on -/
def Em.ban (ι : Em) (p : Addr) : Em := ⟨ι.c, p :: ι.b⟩
theorem Ext.banned {p : Addr} {o : HO} (hp : H p = none) : Ext ι H (ι.ban p) (upd H p o) := ⟨⟨[p], rfl, by simpa using hp⟩, ⟨[], by simp [Em.ban], by simp⟩, fun a u _ h => by rw [upd_ne (ne_of_none h hp)]; exact h⟩
theorem Sr.banned {p : Addr} {o : HO} (h : Sr K H ι S) (hp : H p = none) : Sr K (upd H p o) (ι.ban p) S := by
  refine ⟨h.len, h.nd, fun b hb => ?_, fun n a c e1 e2 => (h.cell n a c e1 e2).ext (Ext.banned hp) (upd_ne fun q => (h.cell n a c e1 e2).some (q ▸ hp))⟩
  rcases List.mem_cons.mp hb with rfl | hb
  · rw [upd_same]; simp
  · exact upd_some (h.ban b hb)
mutual
/-- a banned object changes -/
theorem Rp.ban2 {p : Addr} {o : HO} (hb : p ∈ ι.b) : ∀ {v : V} {d : D}, Rp K H ι v d → Rp K (upd H p o) ι v d
  | _, _, .non => .non
  | _, _, .bl b => .bl b
  | _, _, .int i => .int i
  | _, _, .str x => .str x
  | _, _, .tup hn hr hs => .tup hn ((upd_ne fun (q : _ = p) => hn (.inr (by rw [q]; exact hb))).trans hr) (Rps.ban2 hb hs)
  | _, _, .tupK h hs => .tupK h (Rps.ban2 hb hs)
  | _, _, .lst hn hr hs => .lst hn ((upd_ne fun (q : _ = p) => hn (.inr (by rw [q]; exact hb))).trans hr) (Rps.ban2 hb hs)
  | _, _, .frz hn hr hs => .frz hn ((upd_ne fun (q : _ = p) => hn (.inr (by rw [q]; exact hb))).trans hr) (Rps.ban2 hb hs)
  | _, _, .frzK h hs => .frzK h (Rps.ban2 hb hs)
  | _, _, .ref h => .ref h
  | _, _, .err hn hr hs => .err hn ((upd_ne fun (q : _ = p) => hn (.inr (by rw [q]; exact hb))).trans hr) (Rps.ban2 hb hs)
theorem Rps.ban2 {p : Addr} {o : HO} (hb : p ∈ ι.b) : ∀ {vs : List V} {ds : List D}, Rps K H ι vs ds → Rps K (upd H p o) ι vs ds
  | _, _, .nil => .nil
  | _, _, .cons h hs => .cons (Rp.ban2 hb h) (Rps.ban2 hb hs)
end
theorem Sr.ban2 {p : Addr} {o : HO} (h : Sr K H ι S) (hb : p ∈ ι.b) (hp : p ∉ ι.c) : Sr K (upd H p o) ι S := by
  refine ⟨h.len, h.nd, fun b hb => upd_some (h.ban b hb), fun n a c e1 e2 => ?_⟩
  have q := h.cell n a c e1 e2
  have ne : a ≠ p := fun z => hp (z ▸ List.mem_of_getElem? e1)
  cases c with
  | lst ds => obtain ⟨vs, e3, r⟩ := q; exact ⟨vs, (upd_ne ne).trans e3, r.ban2 hb⟩
mutual
/-- fewer addresses are held -/
theorem Rp.less (hh : ∀ a, ι'.has a → ι.has a) (hc : ∀ (n : Nat) (a : Addr), ι.c[n]? = some a → ι'.c[n]? = some a) : ∀ {v : V} {d : D}, Rp K H ι v d → Rp K H ι' v d
  | _, _, .non => .non
  | _, _, .bl b => .bl b
  | _, _, .int i => .int i
  | _, _, .str x => .str x
  | _, _, .tup hn hr hs => .tup (fun z => hn (hh _ z)) hr (Rps.less hh hc hs)
  | _, _, .tupK h hs => .tupK h (Rps.less hh hc hs)
  | _, _, .lst hn hr hs => .lst (fun z => hn (hh _ z)) hr (Rps.less hh hc hs)
  | _, _, .frz hn hr hs => .frz (fun z => hn (hh _ z)) hr (Rps.less hh hc hs)
  | _, _, .frzK h hs => .frzK h (Rps.less hh hc hs)
  | _, _, .ref h => .ref (hc _ _ h)
  | _, _, .err hn hr hs => .err (fun z => hn (hh _ z)) hr (Rps.less hh hc hs)
theorem Rps.less (hh : ∀ a, ι'.has a → ι.has a) (hc : ∀ (n : Nat) (a : Addr), ι.c[n]? = some a → ι'.c[n]? = some a) : ∀ {vs : List V} {ds : List D}, Rps K H ι vs ds → Rps K H ι' vs ds
  | _, _, .nil => .nil
  | _, _, .cons h hs => .cons (Rp.less hh hc h) (Rps.less hh hc hs)
end
/-- a banned list is let go, as data | as a cell -/
def Em.free (ι : Em) (p : Addr) : Em := ⟨ι.c, ι.b.filter fun b => decide (b ≠ p)⟩
theorem Em.free_has {p a : Addr} (h : (ι.free p).has a) : ι.has a := h.imp id fun z => (List.mem_filter.mp z).1
theorem Sr.free {p : Addr} (h : Sr K H ι S) : Sr K H (ι.free p) S := by
  refine ⟨h.len, h.nd, fun b hb => h.ban b (List.mem_filter.mp hb).1, fun n a c e1 e2 => ?_⟩
  have q := h.cell n a c e1 e2
  cases c with
  | lst ds => obtain ⟨vs, e3, r⟩ := q; exact ⟨vs, e3, r.less (fun _ => Em.free_has) fun _ _ z => z⟩
theorem Ext.free {p : Addr} (e : Ext ι H ι' H') : Ext ι H ⟨ι'.c, ι'.b.filter fun b => decide (b ≠ p)⟩ H' ∨ p ∈ ι.b := by
  by_cases hp : p ∈ ι.b
  · exact .inr hp
  · obtain ⟨nb, e1, k⟩ := e.ban
    refine .inl ⟨⟨nb.filter fun b => decide (b ≠ p), ?_, fun q hq => k q (List.mem_filter.mp hq).1⟩, e.pre, e.keep⟩
    show ι'.b.filter _ = _
    rw [e1, List.filter_append]
    congr 1
    rw [List.filter_eq_self]
    intro b hb
    simp only [ne_eq, decide_eq_true_eq]
    exact fun z => hp (z ▸ hb)
theorem Em.push_has {p a : Addr} (hb : p ∈ ι.b) (h : ((ι.free p).push p).has a) : ι.has a := by
  rcases h with h | h
  · rcases List.mem_append.mp h with h | h
    · exact .inl h
    · cases List.mem_singleton.mp h; exact .inr hb
  · exact .inr (List.mem_filter.mp h).1
theorem Em.push_get {p : Addr} (n : Nat) (a : Addr) (h : ι.c[n]? = some a) : ((ι.free p).push p).c[n]? = some a := by
  show (ι.c ++ [p])[n]? = some a
  rw [List.getElem?_append_left (List.getElem?_eq_some_iff.mp h).1]; exact h
theorem Sr.adopt {p : Addr} {us : List V} {ds : List D} (h : Sr K H ι S) (hb : p ∈ ι.b) (hp : p ∉ ι.c) (e : H p = some (.lst us)) (r : Rps K H ι us ds) : Sr K H ((ι.free p).push p) (S ++ [.lst ds]) := by
  refine ⟨by show (ι.c ++ [p]).length = _; simp [h.len], ?_, fun b hb => h.ban b (List.mem_filter.mp hb).1, fun n a c e1 e2 => ?_⟩
  · show (ι.c ++ [p]).Nodup
    rw [List.nodup_append]
    exact ⟨h.nd, by simp, fun a ha b hb => by simp at hb; subst hb; exact fun q => hp (q ▸ ha)⟩
  · replace e1 : (ι.c ++ [p])[n]? = some a := e1
    by_cases hn : n < ι.c.length
    · rw [List.getElem?_append_left hn] at e1
      rw [List.getElem?_append_left (by rw [← h.len]; exact hn)] at e2
      have q := h.cell n a c e1 e2
      cases c with
      | lst es => obtain ⟨vs, e3, r⟩ := q; exact ⟨vs, e3, r.less (fun _ => Em.push_has hb) fun n a => Em.push_get n a⟩
    · have hn2 : n = ι.c.length := by
        have := (List.getElem?_eq_some_iff.mp e1).1
        simp at this; omega
      subst hn2
      rw [List.getElem?_append_right (Nat.le_refl _)] at e1
      rw [h.len, List.getElem?_append_right (Nat.le_refl _)] at e2
      simp at e1 e2
      subst e1; subst e2
      exact ⟨us, e, r.less (fun _ => Em.push_has hb) fun n a => Em.push_get n a⟩
end

/-! ### environments -/
def Er1 (K : PySem.W.Frag) (H : Hp) (ι : Em) (x : Option V) : Option D → Prop
  | none => True
  | some d => ∃ v, x = some v ∧ Rp K H ι v d
structure Er (K : PySem.W.Frag) (H : Hp) (ι : Em) (σ : L2.St) (env : Env) : Prop where
  len : σ.length = env.length
  at_ : ∀ (i : Nat) (d : D), env[i]? = some (some d) → ∃ v, σ[i]? = some (some v) ∧ Rp K H ι v d
section
variable {K : PySem.W.Frag} {ι ι' : Em} {H H' : Hp} {σ : L2.St} {env : Env}
theorem Er.ext (e : Ext ι H ι' H') (h : Er K H ι σ env) : Er K H' ι' σ env := ⟨h.len, fun i d q => let ⟨v, a, b⟩ := h.at_ i d q; ⟨v, a, b.ext e⟩⟩
theorem Er.set {i : Nat} {v : V} {d : D} (h : Er K H ι σ env) (r : Rp K H ι v d) : Er K H ι (σ.set i (some v)) (env.set i (some d)) := by
  refine ⟨by simp [h.len], fun j e q => ?_⟩
  by_cases hj : i = j
  · subst hj
    have hl : i < env.length := by
      have := (List.getElem?_eq_some_iff.mp q).1
      simpa using this
    rw [List.getElem?_set_self hl] at q
    cases q
    exact ⟨v, List.getElem?_set_self (by rw [h.len]; exact hl), r⟩
  · rw [List.getElem?_set_ne hj] at q ⊢
    exact h.at_ j e q
theorem Er.unset {i : Nat} {x : Option V} (h : Er K H ι σ env) : Er K H ι (σ.set i x) (env.set i none) := by
  refine ⟨by simp [h.len], fun j e q => ?_⟩
  by_cases hj : i = j
  · subst hj
    have hl : i < env.length := by
      have := (List.getElem?_eq_some_iff.mp q).1
      simpa using this
    rw [List.getElem?_set_self hl] at q
    cases q
  · rw [List.getElem?_set_ne hj] at q ⊢
    exact h.at_ j e q
end

/-! ### readings -/
/-- a class's address by its name -/
def clsOf (mg : Str → Option Value) (c : Str) : Option Value := mg c
/-- what is wished of a result -/
def Post {α β : Type} (K : PySem.W.Frag) (mg : Str → Option Value) (Rel : Hp → Em → β → α → Prop) (W : WX) (σ : L2.St) (ι : Em) (H : Hp) (r : R α) (Q : β → Hp → Prop) : Prop := match r with
  | .ok a S' => ∀ ι' H' v, Ext ι H ι' H' → Sr K H' ι' S' → Rel H' ι' v a → Q v H'
  | .ex c fs S' => ∀ ι' H' dd C us, Ext ι H ι' H' → Sr K H' ι' S' → mg c = some (.ref C) → H' dd = some (.xd ((fs.map (·.1)).zip us)) → ¬ ι'.has dd → Rps K H' ι' us (fs.map (·.2)) → W (.ref C) (some dd) σ H'
  | .bad => False
abbrev Den := Env → Sto → R D
abbrev DenA := Env → Sto → R (List D)
abbrev DenT := Env → Sto → R Bool
def rd (K : PySem.W.Frag) (mg : Str → Option Value) (W : WX) (d : Den) : TE := fun σ H Q => ∃ ι env S, Sr K H ι S ∧ Er K H ι σ env ∧ Post K mg (Rp K) W σ ι H (d env S) Q
def rdA (K : PySem.W.Frag) (mg : Str → Option Value) (W : WX) (d : DenA) : TA := fun σ H Q => ∃ ι env S, Sr K H ι S ∧ Er K H ι σ env ∧ Post K mg (Rps K) W σ ι H (d env S) Q
def rdT (K : PySem.W.Frag) (mg : Str → Option Value) (W : WX) (d : DenT) : TT := fun σ H Q => ∃ ι env S, Sr K H ι S ∧ Er K H ι σ env ∧ Post K mg (fun _ _ b c => b = c) W σ ι H (d env S) Q
section
variable {K : PySem.W.Frag} {mg : Str → Option Value} {W : WX} {σ : L2.St} {ι ι' : Em} {H H' : Hp} {S : Sto}
theorem Post.ext {α β : Type} {Rel : Hp → Em → β → α → Prop} {r : R α} {Q : β → Hp → Prop} (h : Post K mg Rel W σ ι H r Q) (e : Ext ι H ι' H') (s : Sr K H' ι' S) : Post K mg Rel W σ ι' H' r Q := by
  cases r with
  | ok a S' => exact fun ι2 H2 v e2 s2 r2 => h ι2 H2 v (e.tr s e2) s2 r2
  | ex c fs S' => exact fun ι2 H2 dd C gs e2 s2 hc => h ι2 H2 dd C gs (e.tr s e2) s2 hc
  | bad => exact h
theorem Post.mono {α β : Type} {Rel : Hp → Em → β → α → Prop} {r : R α} {Q Q' : β → Hp → Prop} (h : Post K mg Rel W σ ι H r Q) (f : ∀ v H, Q v H → Q' v H) : Post K mg Rel W σ ι H r Q' := by
  cases r with
  | ok a S' => exact fun ι2 H2 v e2 s2 r2 => f _ _ (h ι2 H2 v e2 s2 r2)
  | ex c fs S' => exact h
  | bad => exact h
theorem Post.bind {α β α' β' : Type} {Rel : Hp → Em → β → α → Prop} {Rel' : Hp → Em → β' → α' → Prop} {r : R α'} {k : α' → Sto → R α} {Q : β → Hp → Prop} (h : Post K mg Rel W σ ι H (r.bind k) Q) :
    Post K mg Rel' W σ ι H r (fun x H1 => ∃ ι1 a S1, Ext ι H ι1 H1 ∧ Sr K H1 ι1 S1 ∧ Rel' H1 ι1 x a ∧ Post K mg Rel W σ ι1 H1 (k a S1) Q) := by
  cases r with
  | ok a S' => exact fun ι2 H2 v e2 s2 r2 => ⟨ι2, a, S', e2, s2, r2, Post.ext h e2 s2⟩
  | ex c fs S' => exact h
  | bad => exact h
theorem Post.ret {α β : Type} {Rel : Hp → Em → β → α → Prop} {a : α} {v : β} {Q : β → Hp → Prop} (h : Post K mg Rel W σ ι H (.ok a S) Q) (s : Sr K H ι S) (r : Rel H ι v a) : Q v H := h ι H v Ext.refl s r
end
theorem PE.imp {X : Cx} {e : Expr} {t t' : TE} (h : PE X e t) (f : ∀ σ H Q, t' σ H Q → t σ H Q) : PE X e t' := ⟨fun pins s σ H Q I q => h.run pins s σ H Q I (f σ H Q q)⟩
theorem PT.imp {X : Cx} {e : Expr} {t t' : TT} (h : PT X e t) (f : ∀ σ H Q, t' σ H Q → t σ H Q) : PT X e t' := ⟨fun pins s σ H Q I q => h.run pins s σ H Q I (f σ H Q q)⟩
theorem PA.imp {X : Cx} {e : List Expr} {t t' : TA} (h : PA X e t) (f : ∀ σ H Q, t' σ H Q → t σ H Q) : PA X e t' := ⟨fun pos pins s σ H Q I q => h.run pos pins s σ H Q I (f σ H Q q)⟩
theorem PS.imp {X : Cx} {e : Stmt} {t t' : TS} (h : PS X e t) (f : ∀ D σ H, t' D σ H → t D σ H) : PS X e t' := ⟨fun pins s σ H D I q => h.run pins s σ H D I (f D σ H q)⟩
theorem PSs.imp {X : Cx} {e : List Stmt} {t t' : TS} (h : PSs X e t) (f : ∀ D σ H, t' D σ H → t D σ H) : PSs X e t' := ⟨fun pins s σ H D I q => h.run pins s σ H D I (f D σ H q)⟩
end Z
end

section
set_option Elab.async false
set_option linter.all false
set_option maxRecDepth 100000
set_option maxHeartbeats 1000000
namespace Z
noncomputable section
open PySem PySem.Spec PyProof.Rows L2

/-! ### what stands behind a list's value -/
/-- the items of a sequence: a tuple, a list -/
def seqOf (S : Sto) : D → Option (List D)
  | .tup xs => some xs
  | .lst xs => some xs
  | .frz xs => some xs
  | .ref n => match S[n]? with
    | some (.lst xs) => some xs
    | none => none
  | _ => none
/-- the items of a list -/
def lstOf (S : Sto) : D → Option (List D)
  | .lst xs => some xs
  | .frz xs => some xs
  | .ref n => match S[n]? with
    | some (.lst xs) => some xs
    | none => none
  | _ => none
/-- the items of a list that is laid in the call -/
def ownOf (S : Sto) : D → Option (List D)
  | .lst xs => some xs
  | .ref n => match S[n]? with
    | some (.lst xs) => some xs
    | none => none
  | _ => none
section
variable {K : PySem.W.Frag} {H : Hp} {ι : Em} {S : Sto} {v : V} {d : D} {xs : List D}
theorem Sr.list (s : Sr K H ι S) {n : Nat} {a : Addr} (h : ι.c[n]? = some a) (e : S[n]? = some (.lst xs)) : ∃ vs, H a = some (.lst vs) ∧ Rps K H ι vs xs := s.cell n a _ h e
theorem own_inv (s : Sr K H ι S) (r : Rp K H ι v d) (e : ownOf S d = some xs) : ∃ a vs, v = .ref a ∧ H a = some (.lst vs) ∧ Rps K H ι vs xs := by
  cases d with
  | lst ys => cases e; obtain ⟨a, vs, e1, _, e2, e3⟩ := r.lst_inv; exact ⟨a, vs, e1, e2, e3⟩
  | ref n =>
    obtain ⟨a, e1, e2⟩ := r.ref_inv
    simp only [ownOf] at e
    split at e
    · rename_i e3; cases e; obtain ⟨vs, h1, h2⟩ := s.list e2 e3; exact ⟨a, vs, e1, h1, h2⟩
    · cases e
  | _ => cases e
theorem lst_inv (s : Sr K H ι S) (r : Rp K H ι v d) (e : lstOf S d = some xs) : ∃ a vs, v = .ref a ∧ SqL K H a vs ∧ Rps K H ι vs xs := by
  cases d with
  | lst ys => cases e; obtain ⟨a, vs, e1, _, e2, e3⟩ := r.lst_inv; exact ⟨a, vs, e1, .of e2, e3⟩
  | frz ys => cases e; exact r.frz_inv
  | ref n =>
    obtain ⟨a, e1, e2⟩ := r.ref_inv
    simp only [lstOf] at e
    split at e
    · rename_i e3; cases e; obtain ⟨vs, h1, h2⟩ := s.list e2 e3; exact ⟨a, vs, e1, .of h1, h2⟩
    · cases e
  | _ => cases e
theorem seq_inv (s : Sr K H ι S) (r : Rp K H ι v d) (e : seqOf S d = some xs) : ∃ a vs, v = .ref a ∧ (SqL K H a vs ∨ SqT K H a vs) ∧ Rps K H ι vs xs := by
  cases d with
  | tup ys => cases e; obtain ⟨a, vs, e1, e2, e3⟩ := r.tup_inv; exact ⟨a, vs, e1, .inr e2, e3⟩
  | lst ys => cases e; obtain ⟨a, vs, e1, _, e2, e3⟩ := r.lst_inv; exact ⟨a, vs, e1, .inl (.of e2), e3⟩
  | frz ys => cases e; obtain ⟨a, vs, e1, e2, e3⟩ := r.frz_inv; exact ⟨a, vs, e1, .inl e2, e3⟩
  | ref n =>
    obtain ⟨a, e1, e2⟩ := r.ref_inv
    simp only [seqOf] at e
    split at e
    · rename_i e3; cases e; obtain ⟨vs, h1, h2⟩ := s.list e2 e3; exact ⟨a, vs, e1, .inl (.of h1), h2⟩
    · cases e
  | _ => cases e
end

/-! ### making objects -/
/-- a new list: data, or a cell -/
def mkL (c : Bool) (xs : List D) (S : Sto) : R D := if Fit xs.length then (if c then .ok (.ref S.length) (S ++ [.lst xs]) else .ok (.lst xs) S) else .bad
def mkT (xs : List D) (S : Sto) : R D := if Fit xs.length then .ok (.tup xs) S else .bad
section
variable {K : PySem.W.Frag} {mg : Str → Option Value} {W : WX} {σ : L2.St} {H : Hp} {ι : Em} {S : Sto} {xs : List D} {vs : List V} {Q : VK}
theorem Post.mkL {c : Bool} (h : Post K mg (Rp K) W σ ι H (mkL c xs S) Q) (s : Sr K H ι S) (r : Rps K H ι vs xs) : vs.length ≤ sizeLine ∧ ∀ p, H p = none → Q (.ref p) (upd H p (.lst vs)) := by
  unfold Z.mkL at h
  by_cases hl : Fit xs.length
  · rw [if_pos hl] at h
    refine ⟨by rw [r.length]; exact hl, fun p hp => ?_⟩
    cases c with
    | true =>
      exact h _ _ _ (Ext.newC hp) (s.newC hp r) (.ref (by show (ι.c ++ [p])[S.length]? = some p; rw [← s.len]; simp))
    | false => exact h _ _ _ (Ext.new hp) (s.new hp) (.lst (s.out hp) upd_same (r.ext (Ext.new hp)))
  · rw [if_neg hl] at h; exact h.elim
theorem Post.mkT (h : Post K mg (Rp K) W σ ι H (mkT xs S) Q) (s : Sr K H ι S) (r : Rps K H ι vs xs) : vs.length ≤ sizeLine ∧ ∀ p, H p = none → Q (.ref p) (upd H p (.tup vs)) := by
  unfold Z.mkT at h
  by_cases hl : Fit xs.length
  · rw [if_pos hl] at h
    exact ⟨by rw [r.length]; exact hl, fun p hp => h _ _ _ (Ext.new hp) (s.new hp) (.tup (s.out hp) upd_same (r.ext (Ext.new hp)))⟩
  · rw [if_neg hl] at h; exact h.elim
end

/-! ### names and constants -/
def dVar (i : Nat) : Den := fun env S => match env[i]? with
  | some (some d) => .ok d S
  | _ => .bad
def dC (d : D) : Den := fun _ S => .ok d S
section
variable {X : Cx} {W : WX}
abbrev EE (X : Cx) (W : WX) (e : Expr) (d : Den) : Prop := PE X e (rd X.K X.mg W d)
abbrev TT' (X : Cx) (W : WX) (e : Expr) (d : DenT) : Prop := PT X e (rdT X.K X.mg W d)
abbrev AA (X : Cx) (W : WX) (e : List Expr) (d : DenA) : Prop := PA X e (rdA X.K X.mg W d)
theorem rd_var {K : PySem.W.Frag} {mg : Str → Option Value} {i : Nat} {σ : L2.St} {H : Hp} {Q : VK} (h : rd K mg W (dVar i) σ H Q) : tVar i σ H Q := by
  obtain ⟨ι, env, S, s, er, p⟩ := h
  unfold dVar at p
  split at p
  · rename_i d e
    obtain ⟨v, e1, r⟩ := er.at_ i d e
    exact ⟨v, e1, p.ret s r⟩
  · exact p.elim
theorem ev (i : Nat) {x : Str} {pos : Pos} (hN : X.N[i]? = some x := by rfl) (hv : Vis X.env.scope x := by first | exact Or.inl rfl | exact Or.inr (Or.inl rfl) | exact Or.inr (Or.inr rfl)) (hd : (x == ("__debug__" : Str)) = false := by decide)
    (hcd : (x == ("__classdict__" : Str)) = false := by decide) : EE X W (.Name x pos) (dVar i) := PE.imp (pe_var hN hv hd hcd) fun _ _ _ h => rd_var h
/-- the constant data -/
inductive Flat : V → D → Prop
  | non : Flat .non .non
  | bl (b : Bool) : Flat (.bl b) (.bl b)
  | int (i : Int) : Flat (.int i) (.int i)
  | str (x : Str) : Flat (.str x) (.str x)
theorem Flat.rp {K : PySem.W.Frag} {H : Hp} {ι : Em} {v : V} {d : D} (h : Flat v d) : Rp K H ι v d := by cases h <;> constructor
theorem rd_c {K : PySem.W.Frag} {mg : Str → Option Value} {v : V} {d : D} {σ : L2.St} {H : Hp} {Q : VK} (f : ∀ ι, Rp K H ι v d) (h : rd K mg W (dC d) σ H Q) : tC v σ H Q := by
  obtain ⟨ι, env, S, s, er, p⟩ := h
  exact p.ret s (f ι)
theorem ec_int {i : Int} {j pos} : EE X W (.Constant (.int i) j pos) (dC (.int i)) := PE.imp pe_int fun _ _ _ h => rd_c (fun _ => .int i) h
theorem ec_bl {b : Bool} {j pos} : EE X W (.Constant (.bool b) j pos) (dC (.bl b)) := PE.imp pe_bl fun _ _ _ h => rd_c (fun _ => .bl b) h
theorem ec_non {j pos} : EE X W (.Constant .none j pos) (dC .non) := PE.imp pe_non fun _ _ _ h => rd_c (fun _ => .non) h
theorem ec_str {x : Str} {j pos} : EE X W (.Constant (.str x) j pos) (dC (.str x)) := PE.imp pe_str fun _ _ _ h => rd_c (fun _ => .str x) h
/-- a constant of the module: data of the written part -/
theorem e_glob {x : Str} {u : Value} {v : V} {d : D} {pos : Pos} (hg : Gl X x) (hm : X.mg x = some u) (r : RelV v u) (f : ∀ H ι, Rp X.K H ι v d) (hd : (x == ("__debug__" : Str)) = false := by decide) : EE X W (.Name x pos) (dC d) :=
  PE.imp (pe_glob hg hm r hd) fun _ _ _ h => rd_c (f _) h
end

/-! ### two places -/
def bin (f : D → D → Sto → R D) (a b : Den) : Den := fun env S => (a env S).bind fun x S1 => (b env S1).bind fun y S2 => f x y S2
def OpS (K : PySem.W.Frag) (r : R2) (f : D → D → Sto → R D) : Prop :=
  ∀ (mg : Str → Option Value) (W : WX) (σ : L2.St) (ι : Em) (H : Hp) (S : Sto) (x y : V) (dx dy : D) (Q : VK), Sr K H ι S → Rp K H ι x dx → Rp K H ι y dy → Post K mg (Rp K) W σ ι H (f dx dy S) Q → r x y H Q
section
variable {X : Cx} {W : WX} {a b c : Expr} {da db dc : Den} {pos : Pos} {r r' : R2} {f g : D → D → Sto → R D}
theorem rd_bin {K : PySem.W.Frag} {mg : Str → Option Value} {σ : L2.St} {H : Hp} {Q : VK} (hf : OpS K r f) (h : rd K mg W (bin f da db) σ H Q) : tOp r (rd K mg W da) (rd K mg W db) σ H Q := by
  obtain ⟨ι, env, S, s, er, p⟩ := h
  refine ⟨ι, env, S, s, er, (Post.bind (Rel' := Rp K) p).mono ?_⟩
  rintro x H1 ⟨ι1, dx, S1, e1, s1, r1, p1⟩
  refine ⟨ι1, env, S1, s1, er.ext e1, (Post.bind (Rel' := Rp K) p1).mono ?_⟩
  rintro y H2 ⟨ι2, dy, S2, e2, s2, r2, p2⟩
  exact hf mg W σ ι2 H2 S2 x y dx dy Q s2 (r1.ext e2) r2 p2
theorem e_op {op : Operator} (ho : OpR X (binaryOp op) r) (hf : OpS X.K r f) (ha : EE X W a da) (hb : EE X W b db) : EE X W (.BinOp a op b pos) (bin f da db) := PE.imp (pe_op ho ha hb) fun _ _ _ h => rd_bin hf h
theorem e_cmp {op : CmpOp} (ho : OpR X (compareOp op) r) (hf : OpS X.K r f) (ha : EE X W a da) (hb : EE X W b db) (hm : behindInMarks op b = false := by first | exact nomark _ | rfl) : EE X W (.Compare a [op] [b] pos) (bin f da db) := PE.imp (pe_cmpR ho ha hb hm) fun _ _ _ h => rd_bin hf h
theorem e_ix {r : R2} (ho : IxR X r) (hf : OpS X.K r f) (ha : EE X W a da) (hb : EE X W b db) (hs : PlainIx b := by exact fun _ _ => rfl) : EE X W (.Subscript a b pos) (bin f da db) := PE.imp (pe_ix ho ha hb hs) fun _ _ _ h => rd_bin hf h
theorem OpS.or1 {K : PySem.W.Frag} (h : OpS K r f) : OpS K (fun x y H Q => r x y H Q ∨ r' x y H Q) f := fun mg W σ ι H S x y dx dy Q s rx ry p => .inl (h mg W σ ι H S x y dx dy Q s rx ry p)
/-- a op1 b op2 c -/
def chain (f g : D → D → Sto → R D) (a b c : Den) : Den := fun env S => (a env S).bind fun x S1 => (b env S1).bind fun y S2 => (f x y S2).bind fun z S3 => match z with
  | .bl true => (c env S3).bind fun w S4 => g y w S4
  | .bl false => .ok (.bl false) S3
  | _ => .bad
theorem rd_chain {K : PySem.W.Frag} {mg : Str → Option Value} {σ : L2.St} {H : Hp} {Q : VK} (hf : OpS K r f) (hg : OpS K r' g) (h : rd K mg W (chain f g da db dc) σ H Q) : tChain r r' (rd K mg W da) (rd K mg W db) (rd K mg W dc) σ H Q := by
  obtain ⟨ι, env, S, s, er, p⟩ := h
  refine ⟨ι, env, S, s, er, (Post.bind (Rel' := Rp K) p).mono ?_⟩
  rintro x H1 ⟨ι1, dx, S1, e1, s1, r1, p1⟩
  refine ⟨ι1, env, S1, s1, er.ext e1, (Post.bind (Rel' := Rp K) p1).mono ?_⟩
  rintro y H2 ⟨ι2, dy, S2, e2, s2, r2, p2⟩
  refine hf mg W σ ι2 H2 S2 x y dx dy _ s2 (r1.ext e2) r2 ((Post.bind (Rel' := Rp K) p2).mono ?_)
  rintro z H3 ⟨ι3, dz, S3, e3, s3, r3, p3⟩
  cases dz with
  | bl k =>
    cases r3
    refine ⟨k, rfl, ?_⟩
    cases k with
    | true =>
      rw [if_pos rfl]
      refine ⟨ι3, env, S3, s3, ((er.ext e1).ext e2).ext e3, (Post.bind (Rel' := Rp K) p3).mono ?_⟩
      rintro w H4 ⟨ι4, dw, S4, e4, s4, r4, p4⟩
      exact hg mg W σ ι4 H4 S4 y w dy dw Q s4 ((r2.ext e3).ext e4) r4 p4
    | false =>
      rw [if_neg Bool.false_ne_true]
      exact p3.ret s3 (.bl false)
  | _ => exact p3.elim
theorem e_chain {op op' : CmpOp} (ho : OpR X (compareOp op) r) (ho' : OpR X (compareOp op') r') (hf : OpS X.K r f) (hg : OpS X.K r' g) (ha : EE X W a da) (hb : EE X W b db) (hc : EE X W c dc)
    (hm : lastMarks [op, op'] [b, c] = false := by with_unfolding_all rfl) : EE X W (.Compare a [op, op'] [b, c] pos) (chain f g da db dc) := PE.imp (pe_chain ho ho' ha hb hc hm) fun _ _ _ h => rd_chain hf hg h
end

/-! ### ints -/
def fAdd (x y : D) (S : Sto) : R D := match x, y with
  | .int i, .int j => .ok (.int (i + j)) S
  | _, _ => .bad
def fSub (x y : D) (S : Sto) : R D := match x, y with
  | .int i, .int j => .ok (.int (i - j)) S
  | _, _ => .bad
def MulOk (i j : Int) : Prop := CMul i j ∨ CMulW i j
noncomputable instance (i j : Int) : Decidable (MulOk i j) := Classical.propDecidable _
def fMul (x y : D) (S : Sto) : R D := match x, y with
  | .int i, .int j => if MulOk i j then .ok (.int (i * j)) S else .bad
  | _, _ => .bad
def DivOk (j : Int) : Prop := 0 < j ∧ j.natAbs.log2 < 9000
noncomputable instance (j : Int) : Decidable (DivOk j) := Classical.propDecidable _
def fDiv (x y : D) (S : Sto) : R D := match x, y with
  | .int i, .int j => if DivOk j then .ok (.int (i / j)) S else .bad
  | _, _ => .bad
def fMod (x y : D) (S : Sto) : R D := match x, y with
  | .int i, .int j => if 0 < j then .ok (.int (i % j)) S else .bad
  | _, _ => .bad
noncomputable instance (i j : Int) : Decidable (CPow i j) := Classical.propDecidable _
def fPow (x y : D) (S : Sto) : R D := match x, y with
  | .int i, .int j => if CPow i j then .ok (.int (i ^ j.toNat)) S else .bad
  | _, _ => .bad
def fLt (x y : D) (S : Sto) : R D := match x, y with
  | .int i, .int j => .ok (.bl (decide (i < j))) S
  | _, _ => .bad
def fLe (x y : D) (S : Sto) : R D := match x, y with
  | .int i, .int j => .ok (.bl (decide (i ≤ j))) S
  | _, _ => .bad
def fGt (x y : D) (S : Sto) : R D := match x, y with
  | .int i, .int j => .ok (.bl (decide (j < i))) S
  | _, _ => .bad
def fGe (x y : D) (S : Sto) : R D := match x, y with
  | .int i, .int j => .ok (.bl (decide (j ≤ i))) S
  | _, _ => .bad
section
variable {K : PySem.W.Frag} {X : Cx}
theorem int2 {H : Hp} {ι : Em} {x y : V} {i j : Int} (rx : Rp K H ι x (.int i)) (ry : Rp K H ι y (.int j)) : x = .int i ∧ y = .int j := ⟨rx.int_inv, ry.int_inv⟩
theorem opI0S {g : Int → Int → V} {f : D → D → Sto → R D} {gd : Int → Int → D} (hf : ∀ x y S, f x y S = match x, y with | .int i, .int j => .ok (gd i j) S | _, _ => .bad) (hg : ∀ i j, Flat (g i j) (gd i j)) : OpS K (rI0 g) f := by
  intro mg W σ ι H S x y dx dy Q s rx ry p
  rw [hf] at p
  split at p
  · rename_i i j
    obtain ⟨rfl, rfl⟩ := int2 rx ry
    exact ⟨i, j, rfl, rfl, p.ret s (hg i j).rp⟩
  · exact p.elim
theorem opIS {C : Int → Int → Prop} {D' : Int → Int → Prop} [∀ i j, Decidable (D' i j)] {g : Int → Int → V} {f : D → D → Sto → R D} {gd : Int → Int → D} (hf : ∀ x y S, f x y S = match x, y with | .int i, .int j => if D' i j then .ok (gd i j) S else .bad | _, _ => .bad) (hc : ∀ i j, D' i j → C i j) (hg : ∀ i j, Flat (g i j) (gd i j)) : OpS K (rI C g) f := by
  intro mg W σ ι H S x y dx dy Q s rx ry p
  rw [hf] at p
  split at p
  · rename_i i j
    obtain ⟨rfl, rfl⟩ := int2 rx ry
    by_cases h : D' i j
    · rw [if_pos h] at p; exact ⟨i, j, rfl, rfl, hc i j h, p.ret s (hg i j).rp⟩
    · rw [if_neg h] at p; exact p.elim
  · exact p.elim
theorem sAdd : OpS K (rI0 fun i j => .int (i + j)) fAdd := opI0S (fun _ _ _ => rfl) fun _ _ => .int _
theorem sSub : OpS K (rI0 fun i j => .int (i - j)) fSub := opI0S (fun _ _ _ => rfl) fun _ _ => .int _
def rMul : R2 := fun x y H Q => (rI CMul fun i j => .int (i * j)) x y H Q ∨ (rI CMulW fun i j => .int (i * j)) x y H Q
theorem oMul : OpR X (binaryOp .Mult) rMul := op_mul.or op_mulW
theorem sMul : OpS K rMul fMul := by
  intro mg W σ ι H S x y dx dy Q s rx ry p
  unfold fMul at p
  split at p
  · rename_i i j
    obtain ⟨rfl, rfl⟩ := int2 rx ry
    by_cases h : MulOk i j
    · rw [if_pos h] at p
      rcases h with h | h
      · exact .inl ⟨i, j, rfl, rfl, h, p.ret s (.int _)⟩
      · exact .inr ⟨i, j, rfl, rfl, h, p.ret s (.int _)⟩
    · rw [if_neg h] at p; exact p.elim
  · exact p.elim
theorem sDiv : OpS K (rI CDivW fun i j => .int (i / j)) fDiv := opIS (D' := fun _ j => DivOk j) (fun _ _ _ => rfl) (fun _ _ h => h) fun _ _ => .int _
theorem sMod : OpS K (rI (fun _ j => 0 < j) fun i j => .int (i % j)) fMod := opIS (D' := fun _ j => 0 < j) (fun _ _ _ => rfl) (fun _ _ h => h) fun _ _ => .int _
theorem sPow : OpS K (rI CPow fun i j => .int (i ^ j.toNat)) fPow := opIS (D' := CPow) (fun _ _ _ => rfl) (fun _ _ h => h) fun _ _ => .int _
theorem sLt : OpS K (rI0 fun i j => .bl (decide (i < j))) fLt := opI0S (fun _ _ _ => rfl) fun _ _ => .bl _
theorem sLe : OpS K (rI0 fun i j => .bl (decide (i ≤ j))) fLe := opI0S (fun _ _ _ => rfl) fun _ _ => .bl _
theorem sGt : OpS K (rI0 fun i j => .bl (decide (j < i))) fGt := opI0S (fun _ _ _ => rfl) fun _ _ => .bl _
theorem sGe : OpS K (rI0 fun i j => .bl (decide (j ≤ i))) fGe := opI0S (fun _ _ _ => rfl) fun _ _ => .bl _
end

/-! ### one place -/
def un (f : D → Sto → R D) (a : Den) : Den := fun env S => (a env S).bind f
def UnS (K : PySem.W.Frag) (r : V → Hp → VK → Prop) (f : D → Sto → R D) : Prop :=
  ∀ (mg : Str → Option Value) (W : WX) (σ : L2.St) (ι : Em) (H : Hp) (S : Sto) (x : V) (dx : D) (Q : VK), Sr K H ι S → Rp K H ι x dx → Post K mg (Rp K) W σ ι H (f dx S) Q → r x H Q
def fNeg (x : D) (S : Sto) : R D := match x with
  | .int i => .ok (.int (-i)) S
  | _ => .bad
section
variable {X : Cx} {W : WX} {a b : Expr} {da db : Den} {pos : Pos} {r : V → Hp → VK → Prop} {f : D → Sto → R D}
theorem rd_un {K : PySem.W.Frag} {mg : Str → Option Value} {σ : L2.St} {H : Hp} {Q : VK} (hf : UnS K r f) (h : rd K mg W (un f da) σ H Q) : tUn r (rd K mg W da) σ H Q := by
  obtain ⟨ι, env, S, s, er, p⟩ := h
  refine ⟨ι, env, S, s, er, (Post.bind (Rel' := Rp K) p).mono ?_⟩
  rintro x H1 ⟨ι1, dx, S1, e1, s1, r1, p1⟩
  exact hf mg W σ ι1 H1 S1 x dx Q s1 r1 p1
theorem e_un {op : UnaryOp} (ho : UnR X (unaryOp op) r) (hf : UnS X.K r f) (ha : EE X W a da) : EE X W (.UnaryOp op a pos) (un f da) := PE.imp (pe_un ho ha) fun _ _ _ h => rd_un hf h
theorem sNeg {K : PySem.W.Frag} : UnS K (rU fun i => .int (-i)) fNeg := by
  intro mg W σ ι H S x dx Q s rx p
  unfold fNeg at p
  split at p
  · cases rx; exact ⟨_, rfl, p.ret s (.int _)⟩
  · exact p.elim
end

/-! ### is -/
def isNon : D → Bool
  | .non => true
  | _ => false
def isBl (b : Bool) : D → Bool
  | .bl c => b == c
  | _ => false
def dIsN (a : Den) : Den := fun env S => (a env S).bind fun x S1 => .ok (.bl (isNon x)) S1
def dNotN (a : Den) : Den := fun env S => (a env S).bind fun x S1 => .ok (.bl (!isNon x)) S1
def dIsB (b : Bool) (a : Den) : Den := fun env S => (a env S).bind fun x S1 => .ok (.bl (isBl b x)) S1
def dNotB (b : Bool) (a : Den) : Den := fun env S => (a env S).bind fun x S1 => .ok (.bl (!isBl b x)) S1
section
variable {X : Cx} {W : WX} {a b : Expr} {da db : Den} {pos : Pos}
theorem Rp.isNon {K : PySem.W.Frag} {H : Hp} {ι : Em} {v : V} {d : D} (h : Rp K H ι v d) : decide (v = .non) = Z.isNon d := by cases h <;> simp [Z.isNon]
theorem Rp.isBl {K : PySem.W.Frag} {H : Hp} {ι : Em} {v : V} {d : D} {b : Bool} (h : Rp K H ι v d) : decide (v = .bl b) = Z.isBl b d := by
  cases h <;> simp [Z.isBl]
  rename_i c
  cases b <;> cases c <;> rfl
theorem e_isN {j pos'} (ha : EE X W a da) : EE X W (.Compare a [.Is] [.Constant .none j pos'] pos) (dIsN da) := PE.imp (pe_cmp (pc_isN ha)) fun σ H Q h => by
  obtain ⟨ι, env, S, s, er, p⟩ := h
  refine ⟨ι, env, S, s, er, (Post.bind (Rel' := Rp X.K) p).mono ?_⟩
  rintro x H1 ⟨ι1, dx, S1, e1, s1, r1, p1⟩
  rw [r1.isNon]; exact p1.ret s1 (.bl _)
theorem e_notN {j pos'} (ha : EE X W a da) : EE X W (.Compare a [.IsNot] [.Constant .none j pos'] pos) (dNotN da) := PE.imp (pe_cmp (pc_notN ha)) fun σ H Q h => by
  obtain ⟨ι, env, S, s, er, p⟩ := h
  refine ⟨ι, env, S, s, er, (Post.bind (Rel' := Rp X.K) p).mono ?_⟩
  rintro x H1 ⟨ι1, dx, S1, e1, s1, r1, p1⟩
  rw [r1.isNon]; exact p1.ret s1 (.bl _)
def rIsBl (b : Bool) : R2 := fun x y H Q => y = .bl b ∧ Q (.bl (decide (x = .bl b))) H
def rNotBl (b : Bool) : R2 := fun x y H Q => y = .bl b ∧ Q (.bl (!decide (x = .bl b))) H
theorem bl_other {b : Bool} {x : V} {v : Value} (r : RelV x v) (h : x ≠ .bl b) : v ≠ .bool b := by
  intro e; subst e
  exact h (r.inj (show RelV (.bl b) (.bool b) from rfl))
theorem plain_isB {x : V} {v : Value} {b : Bool} (r : RelV x v) : plainIs v (.bool b) = true := by
  cases x with
  | non => cases (show v = Value.none from r); rfl
  | bl c => cases (show v = Value.bool c from r); rfl
  | int i => obtain ⟨t, rfl⟩ := r; rfl
  | str i => obtain ⟨t, rfl⟩ := r; rfl
  | byt i => obtain ⟨t, rfl⟩ := r; rfl
  | flt i => obtain ⟨t, rfl⟩ := r; rfl
  | ref a => cases (show v = Value.ref a from r); rfl
  | ty n => cases (show v = Value.type n from r); rfl
theorem op_isB (b : Bool) : OpR X (compareOp .Is) (rIsBl b) := by
  intro pins s σ H x y v u Q I rx ry h
  obtain ⟨rfl, q⟩ := h
  cases (show u = Value.bool b from ry)
  by_cases e : x = .bl b
  · subst e
    cases (show v = Value.bool b from rx)
    exact wpAny_is_self rfl ⟨.bl true, H, I, rfl, by simpa using q⟩
  · exact wpAny_is_other (plain_isB rx) (bl_other rx e) ⟨.bl false, H, I, rfl, by simpa [e] using q⟩
theorem op_notB (b : Bool) : OpR X (compareOp .IsNot) (rNotBl b) := by
  intro pins s σ H x y v u Q I rx ry h
  obtain ⟨rfl, q⟩ := h
  cases (show u = Value.bool b from ry)
  by_cases e : x = .bl b
  · subst e
    cases (show v = Value.bool b from rx)
    exact wpAny_isNot_self rfl ⟨.bl false, H, I, rfl, by simpa using q⟩
  · exact wpAny_isNot_other (plain_isB rx) (bl_other rx e) ⟨.bl true, H, I, rfl, by simpa [e] using q⟩
theorem e_isB {b : Bool} {j pos'} (ha : EE X W a da) : EE X W (.Compare a [.Is] [.Constant (.bool b) j pos'] pos) (dIsB b da) := PE.imp (pe_cmpR (op_isB b) ha pe_bl (nomark _)) fun σ H Q h => by
  obtain ⟨ι, env, S, s, er, p⟩ := h
  refine ⟨ι, env, S, s, er, (Post.bind (Rel' := Rp X.K) p).mono ?_⟩
  rintro x H1 ⟨ι1, dx, S1, e1, s1, r1, p1⟩
  refine ⟨rfl, ?_⟩
  rw [r1.isBl]; exact p1.ret s1 (.bl _)
theorem e_notB {b : Bool} {j pos'} (ha : EE X W a da) : EE X W (.Compare a [.IsNot] [.Constant (.bool b) j pos'] pos) (dNotB b da) := PE.imp (pe_cmpR (op_notB b) ha pe_bl (nomark _)) fun σ H Q h => by
  obtain ⟨ι, env, S, s, er, p⟩ := h
  refine ⟨ι, env, S, s, er, (Post.bind (Rel' := Rp X.K) p).mono ?_⟩
  rintro x H1 ⟨ι1, dx, S1, e1, s1, r1, p1⟩
  refine ⟨rfl, ?_⟩
  rw [r1.isBl]; exact p1.ret s1 (.bl _)
end
end
end Z
end

section
set_option Elab.async false
set_option linter.all false
set_option maxRecDepth 100000
set_option maxHeartbeats 1000000
namespace Z
noncomputable section
open PySem PySem.Spec PyProof.Rows L2

/-! ### bools -/
def asB (x : D) (S : Sto) : R Bool := match x with
  | .bl b => .ok b S
  | _ => .bad
def dAnd (a b : Den) : Den := fun env S => (a env S).bind fun x S1 => (asB x S1).bind fun c S1 => if c then b env S1 else .ok (.bl false) S1
def dOr (a b : Den) : Den := fun env S => (a env S).bind fun x S1 => (asB x S1).bind fun c S1 => if c then .ok (.bl true) S1 else b env S1
def dNot (a : Den) : Den := fun env S => (a env S).bind fun x S1 => (asB x S1).bind fun c S1 => .ok (.bl (!c)) S1
def tB' (a : Den) : DenT := fun env S => (a env S).bind asB
def tAnd' (a b : DenT) : DenT := fun env S => (a env S).bind fun c S1 => if c then b env S1 else .ok false S1
def tOr' (a b : DenT) : DenT := fun env S => (a env S).bind fun c S1 => if c then .ok true S1 else b env S1
def tNot' (a : DenT) : DenT := fun env S => (a env S).bind fun c S1 => .ok (!c) S1
def dIf (t : DenT) (a b : Den) : Den := fun env S => (t env S).bind fun c S1 => if c then a env S1 else b env S1
section
variable {X : Cx} {W : WX} {a b c : Expr} {rest : List Expr} {da db dc : Den} {ta tb : DenT} {pos : Pos}
theorem Post.asB {K : PySem.W.Frag} {mg : Str → Option Value} {σ : L2.St} {H : Hp} {ι : Em} {S : Sto} {x : D} {v : V} {α β : Type} {Rel : Hp → Em → β → α → Prop} {k : Bool → Sto → R α} {Q : β → Hp → Prop} (p : Post K mg Rel W σ ι H ((Z.asB x S).bind k) Q) (r : Rp K H ι v x) :
    ∃ c, x = .bl c ∧ v = .bl c ∧ Post K mg Rel W σ ι H (k c S) Q := by
  cases x with
  | bl c => cases r; exact ⟨c, rfl, rfl, p⟩
  | _ => exact p.elim
theorem e_one {op} (h : EE X W a da) : EE X W (.BoolOp op [a] pos) da := pe_one h
theorem e_and (ha : EE X W a da) (hb : EE X W (.BoolOp .And (b :: rest) pos) db) : EE X W (.BoolOp .And (a :: b :: rest) pos) (dAnd da db) := PE.imp (pe_and ha hb) fun σ H Q h => by
  obtain ⟨ι, env, S, s, er, p⟩ := h
  refine ⟨ι, env, S, s, er, (Post.bind (Rel' := Rp X.K) p).mono ?_⟩
  rintro x H1 ⟨ι1, dx, S1, e1, s1, r1, p1⟩
  obtain ⟨c, rfl, rfl, p2⟩ := p1.asB r1
  refine ⟨c, rfl, ?_⟩
  cases c with
  | true => rw [if_pos rfl]; exact ⟨ι1, env, S1, s1, er.ext e1, p2⟩
  | false => rw [if_neg Bool.false_ne_true]; exact p2.ret s1 (.bl _)
theorem e_or (ha : EE X W a da) (hb : EE X W (.BoolOp .Or (b :: rest) pos) db) : EE X W (.BoolOp .Or (a :: b :: rest) pos) (dOr da db) := PE.imp (pe_or ha hb) fun σ H Q h => by
  obtain ⟨ι, env, S, s, er, p⟩ := h
  refine ⟨ι, env, S, s, er, (Post.bind (Rel' := Rp X.K) p).mono ?_⟩
  rintro x H1 ⟨ι1, dx, S1, e1, s1, r1, p1⟩
  obtain ⟨c, rfl, rfl, p2⟩ := p1.asB r1
  refine ⟨c, rfl, ?_⟩
  cases c with
  | false => rw [if_neg Bool.false_ne_true]; exact ⟨ι1, env, S1, s1, er.ext e1, p2⟩
  | true => rw [if_pos rfl]; exact p2.ret s1 (.bl _)
theorem e_not (ha : EE X W a da) : EE X W (.UnaryOp .Not a pos) (dNot da) := PE.imp (pe_not ha) fun σ H Q h => by
  obtain ⟨ι, env, S, s, er, p⟩ := h
  refine ⟨ι, env, S, s, er, (Post.bind (Rel' := Rp X.K) p).mono ?_⟩
  rintro x H1 ⟨ι1, dx, S1, e1, s1, r1, p1⟩
  obtain ⟨c, rfl, rfl, p2⟩ := p1.asB r1
  exact ⟨c, rfl, p2.ret s1 (.bl _)⟩
/-- a bool's value as a test -/
theorem t_B (h : EE X W a da) (he : ∀ whole, isTrue a X.env whole = (do let v ← whole; standAt a.pos; holding [v] (truthy v)) := by intro _; rfl) : TT' X W a (tB' da) := PT.imp (pt_val h he) fun σ H Q h => by
  obtain ⟨ι, env, S, s, er, p⟩ := h
  refine ⟨ι, env, S, s, er, (Post.bind (Rel' := Rp X.K) p).mono ?_⟩
  rintro x H1 ⟨ι1, dx, S1, e1, s1, r1, p1⟩
  cases dx with
  | bl c => cases r1; exact ⟨c, rfl, p1.ret s1 rfl⟩
  | _ => exact p1.elim
abbrev WW (X : Cx) (W : WX) (e : Expr) (d : DenT) : Prop := PW X e (rdT X.K X.mg W d)
theorem PW.imp {X : Cx} {e : Expr} {t t' : TT} (h : PW X e t) (f : ∀ σ H Q, t' σ H Q → t σ H Q) : PW X e t' := ⟨fun wh pins s σ H Q I q => h.run wh pins s σ H Q I (f σ H Q q)⟩
theorem w_and1 (ha : TT' X W a ta) : WW X W (.BoolOp .And [a] pos) ta := pw_and1 ha
theorem w_or1 (ha : TT' X W a ta) : WW X W (.BoolOp .Or [a] pos) ta := pw_or1 ha
theorem w_and (ha : TT' X W a ta) (hb : WW X W (.BoolOp .And (b :: rest) pos) tb) : WW X W (.BoolOp .And (a :: b :: rest) pos) (tAnd' ta tb) := PW.imp (pw_and ha hb) fun σ H Q h => by
  obtain ⟨ι, env, S, s, er, p⟩ := h
  refine ⟨ι, env, S, s, er, (Post.bind (Rel' := fun _ _ b c => b = c) p).mono ?_⟩
  rintro x H1 ⟨ι1, dx, S1, e1, s1, rfl, p1⟩
  cases x with
  | true => rw [if_pos rfl]; exact ⟨ι1, env, S1, s1, er.ext e1, p1⟩
  | false => rw [if_neg Bool.false_ne_true]; exact p1.ret s1 rfl
theorem w_or (ha : TT' X W a ta) (hb : WW X W (.BoolOp .Or (b :: rest) pos) tb) : WW X W (.BoolOp .Or (a :: b :: rest) pos) (tOr' ta tb) := PW.imp (pw_or ha hb) fun σ H Q h => by
  obtain ⟨ι, env, S, s, er, p⟩ := h
  refine ⟨ι, env, S, s, er, (Post.bind (Rel' := fun _ _ b c => b = c) p).mono ?_⟩
  rintro x H1 ⟨ι1, dx, S1, e1, s1, rfl, p1⟩
  cases x with
  | false => rw [if_neg Bool.false_ne_true]; exact ⟨ι1, env, S1, s1, er.ext e1, p1⟩
  | true => rw [if_pos rfl]; exact p1.ret s1 rfl
theorem t_not (ha : TT' X W a ta) : TT' X W (.UnaryOp .Not a pos) (tNot' ta) := PT.imp (pt_not ha) fun σ H Q h => by
  obtain ⟨ι, env, S, s, er, p⟩ := h
  refine ⟨ι, env, S, s, er, (Post.bind (Rel' := fun _ _ b c => b = c) p).mono ?_⟩
  rintro x H1 ⟨ι1, dx, S1, e1, s1, rfl, p1⟩
  exact p1.ret s1 rfl
theorem e_if (hc : TT' X W c ta) (ha : EE X W a da) (hb : EE X W b db) : EE X W (.IfExp c a b pos) (dIf ta da db) := PE.imp (pe_ifExp hc ha hb) fun σ H Q h => by
  obtain ⟨ι, env, S, s, er, p⟩ := h
  refine ⟨ι, env, S, s, er, (Post.bind (Rel' := fun _ _ b c => b = c) p).mono ?_⟩
  rintro x H1 ⟨ι1, dx, S1, e1, s1, rfl, p1⟩
  cases x with
  | true => rw [if_pos rfl]; exact ⟨ι1, env, S1, s1, er.ext e1, p1⟩
  | false => rw [if_neg Bool.false_ne_true]; exact ⟨ι1, env, S1, s1, er.ext e1, p1⟩
end

/-! ### arguments, tuples, lists -/
def aNil : DenA := fun _ S => .ok [] S
def aCons (a : Den) (r : DenA) : DenA := fun env S => (a env S).bind fun x S1 => (r env S1).bind fun xs S2 => .ok (x :: xs) S2
def dTup (a : DenA) : Den := fun env S => (a env S).bind fun xs S1 => mkT xs S1
def dLst (c : Bool) (a : DenA) : Den := fun env S => (a env S).bind fun xs S1 => mkL c xs S1
section
variable {X : Cx} {W : WX} {e : Expr} {es : List Expr} {d : Den} {da : DenA} {pos : Pos}
theorem a_nil : AA X W [] aNil := PA.imp pa_nil fun σ H Q h => by
  obtain ⟨ι, env, S, s, er, p⟩ := h
  exact p.ret s .nil
theorem a_cons (h : EE X W e d) (hr : AA X W es da) (hs : starEach (e :: es) X.env = (false, eval e X.env) :: starEach es X.env := by rfl) : AA X W (e :: es) (aCons d da) := PA.imp (pa_cons h hr hs) fun σ H Q h => by
  obtain ⟨ι, env, S, s, er, p⟩ := h
  refine ⟨ι, env, S, s, er, (Post.bind (Rel' := Rp X.K) p).mono ?_⟩
  rintro x H1 ⟨ι1, dx, S1, e1, s1, r1, p1⟩
  refine ⟨ι1, env, S1, s1, er.ext e1, (Post.bind (Rel' := Rps X.K) p1).mono ?_⟩
  rintro xs H2 ⟨ι2, dxs, S2, e2, s2, r2, p2⟩
  exact p2.ret s2 (.cons (r1.ext e2) r2)
theorem e_tup {k : Nat} (h : AA X W es da) : EE X W (.Tuple es k pos) (dTup da) := PE.imp (pe_tup h) fun σ H Q h => by
  obtain ⟨ι, env, S, s, er, p⟩ := h
  refine ⟨ι, env, S, s, er, (Post.bind (Rel' := Rps X.K) p).mono ?_⟩
  rintro xs H1 ⟨ι1, dxs, S1, e1, s1, r1, p1⟩
  exact p1.mkT s1 r1
theorem e_lst (c : Bool) (h : AA X W es da) : EE X W (.List es pos) (dLst c da) := PE.imp (pe_lst h) fun σ H Q h => by
  obtain ⟨ι, env, S, s, er, p⟩ := h
  refine ⟨ι, env, S, s, er, (Post.bind (Rel' := Rps X.K) p).mono ?_⟩
  rintro xs H1 ⟨ι1, dxs, S1, e1, s1, r1, p1⟩
  exact p1.mkL s1 r1
end

/-! ### subscripts -/
def fIx (x y : D) (S : Sto) : R D := match y with
  | .int i => match seqOf S x with
    | some xs => match atI xs i with
      | some v => .ok v S
      | none => .bad
    | none => match x with
      | .str z => if Fit z.length then match atI z.cps.toList i with
        | some c => .ok (.str ⟨#[c]⟩) S
        | none => .bad
        else .bad
      | _ => .bad
  | _ => .bad
theorem atI_rp {K : PySem.W.Frag} {H : Hp} {ι : Em} {vs : List V} {ds : List D} {i : Int} {d : D} (r : Rps K H ι vs ds) (e : atI ds i = some d) : ∃ v, atI vs i = some v ∧ Rp K H ι v d := by
  unfold atI at e ⊢
  rw [r.length]
  cases q : ixN ds.length i with
  | none => rw [q] at e; cases e
  | some j =>
    rw [q] at e
    obtain ⟨v, e1, r1⟩ := r.get (i := j) e
    exact ⟨v, e1, r1⟩
theorem sIx {K : PySem.W.Frag} : OpS K (rIx K) fIx := by
  intro mg W σ ι H S x y dx dy Q s rx ry p
  unfold fIx at p
  split at p
  · rename_i i
    cases ry
    split at p
    · rename_i xs e
      split at p
      · rename_i v e2
        obtain ⟨a, vs, rfl, hs, r⟩ := seq_inv s rx e
        obtain ⟨u, e3, r3⟩ := atI_rp r e2
        rcases hs with hs | hs
        · exact .inl ⟨a, vs, i, u, rfl, rfl, hs, e3, p.ret s r3⟩
        · exact .inr (.inl ⟨a, vs, i, u, rfl, rfl, hs, e3, p.ret s r3⟩)
      · exact p.elim
    · cases dx with
      | str z =>
        cases rx
        simp only at p
        split at p
        · rename_i hl
          split at p
          · rename_i c e2
            exact .inr (.inr ⟨z, i, c, rfl, rfl, hl, e2, p.ret s (.str _)⟩)
          · exact p.elim
        · exact p.elim
      | _ => exact p.elim
  · exact p.elim
/-- xs[lo:hi] of a list; of a text; of a tuple -/
def cutD {α : Type} (xs : List α) (lo hi : Option Int) : List α := (xs.drop (HT.sIx xs.length 0 lo)).take (HT.sIx xs.length xs.length hi - HT.sIx xs.length 0 lo)
abbrev DenO := Env → Sto → R (Option Int)
def rdO (K : PySem.W.Frag) (mg : Str → Option Value) (W : WX) (d : DenO) : TO := fun σ H Q => ∃ ι env S, Sr K H ι S ∧ Er K H ι σ env ∧ Post K mg (fun _ _ b c => b = c) W σ ι H (d env S) Q
def oNone : DenO := fun _ S => .ok none S
def asI (x : D) (S : Sto) : R Int := match x with
  | .int i => .ok i S
  | _ => .bad
def oSome (d : Den) : DenO := fun env S => (d env S).bind fun x S1 => (asI x S1).bind fun i S1 => .ok (some i) S1
def fSl (c : Bool) (x : D) (lo hi : Option Int) (S : Sto) : R D := match x with
  | .tup xs => if HT.sIx xs.length 0 lo = 0 ∧ HT.sIx xs.length xs.length hi = xs.length then .ok (.tup xs) S else .ok (.tup (cutD xs lo hi)) S
  | .str z => if Fit z.length then .ok (.str (cutS z lo hi)) S else .bad
  | _ => match lstOf S x with
    | some xs => mkL c (cutD xs lo hi) S
    | none => .bad
def dSl (c : Bool) (a : Den) (lo hi : DenO) : Den := fun env S => (a env S).bind fun x S1 => (lo env S1).bind fun l S2 => (hi env S2).bind fun h S3 => fSl c x l h S3
section
variable {X : Cx} {W : WX} {e : Expr} {d : Den} {lo hi : Option Expr} {tl th : DenO} {pos p2 : Pos}
theorem PO.imp {X : Cx} {e : Option Expr} {t t' : TO} (h : PO X e t) (f : ∀ σ H Q, t' σ H Q → t σ H Q) : PO X e t' := ⟨fun pins s σ H Q I q => h.run pins s σ H Q I (f σ H Q q)⟩
abbrev OO (X : Cx) (W : WX) (e : Option Expr) (d : DenO) : Prop := PO X e (rdO X.K X.mg W d)
theorem o_none : OO X W none oNone := PO.imp po_none fun σ H Q h => by
  obtain ⟨ι, env, S, s, er, p⟩ := h
  exact p.ret s rfl
theorem o_some (h : EE X W e d) : OO X W (some e) (oSome d) := PO.imp (po_some h) fun σ H Q h => by
  obtain ⟨ι, env, S, s, er, p⟩ := h
  refine ⟨ι, env, S, s, er, (Post.bind (Rel' := Rp X.K) p).mono ?_⟩
  rintro x H1 ⟨ι1, dx, S1, e1, s1, r1, p1⟩
  cases dx with
  | int i => cases r1; exact ⟨i, rfl, p1.ret s1 rfl⟩
  | _ => exact p1.elim
def rSlZ (K : PySem.W.Frag) : V → Option Int → Option Int → Hp → VK → Prop := fun x lo hi H Q => rSlL K x lo hi H Q ∨ rSlS x lo hi H Q ∨ rSlA K x lo hi H Q
theorem sl_Z : SlR X (rSlZ X.K) := sl_list.or (sl_str.or sl_tupA)
theorem cutD_rp {K : PySem.W.Frag} {H : Hp} {ι : Em} {vs : List V} {ds : List D} (r : Rps K H ι vs ds) (l h : Option Int) : Rps K H ι (cutV vs l h) (cutD ds l h) := by
  unfold cutV cutD
  rw [r.length]
  exact (r.drop _).take _
theorem cutD_len {α : Type} (xs : List α) (lo hi : Option Int) : (cutD xs lo hi).length ≤ xs.length := by
  unfold cutD; rw [List.length_take, List.length_drop]; omega
theorem e_sl (c : Bool) (he : EE X W e d) (hl : OO X W lo tl) (hu : OO X W hi th) : EE X W (.Subscript e (.Slice lo hi none p2) pos) (dSl c d tl th) := PE.imp (pe_slice sl_Z he hl hu) fun σ H Q h => by
  obtain ⟨ι, env, S, s, er, p⟩ := h
  refine ⟨ι, env, S, s, er, (Post.bind (Rel' := Rp X.K) p).mono ?_⟩
  rintro x H1 ⟨ι1, dx, S1, e1, s1, r1, p1⟩
  refine ⟨ι1, env, S1, s1, er.ext e1, (Post.bind (Rel' := fun _ _ b c => b = c) p1).mono ?_⟩
  rintro l H2 ⟨ι2, _, S2, e2, s2, rfl, p2⟩
  refine ⟨ι2, env, S2, s2, (er.ext e1).ext e2, (Post.bind (Rel' := fun _ _ b c => b = c) p2).mono ?_⟩
  rintro h H3 ⟨ι3, _, S3, e3, s3, rfl, p3⟩
  have rx := (r1.ext e2).ext e3
  have lst : ∀ xs, lstOf S3 dx = some xs → Post X.K X.mg (Rp X.K) W σ ι3 H3 (mkL c (cutD xs l h) S3) Q → rSlZ X.K x l h H3 Q := fun xs e4 p4 => by
    obtain ⟨a, vs, rfl, hs, r⟩ := lst_inv s3 rx e4
    exact .inl ⟨a, vs, rfl, hs, (p4.mkL s3 (cutD_rp r l h)).2⟩
  cases dx with
  | tup xs =>
    obtain ⟨a, vs, rfl, hs, r⟩ := rx.tup_inv
    refine .inr (.inr ⟨a, vs, rfl, hs, ?_, ?_⟩)
    · intro hw
      simp only [fSl] at p3
      rw [r.length] at hw
      rw [if_pos hw] at p3
      exact p3.ret s3 rx
    · intro hw q hq
      simp only [fSl] at p3
      rw [r.length] at hw
      rw [if_neg hw] at p3
      exact p3 _ _ _ (Ext.new hq) (s3.new hq) (.tup (s3.out hq) upd_same ((cutD_rp r l h).ext (Ext.new hq)))
  | str z =>
    cases rx
    simp only [fSl] at p3
    split at p3
    · rename_i hz; exact .inr (.inl ⟨z, rfl, hz, p3.ret s3 (.str _)⟩)
    · exact p3.elim
  | lst xs => simp only [fSl, lstOf] at p3; exact lst xs rfl p3
  | frz xs => simp only [fSl, lstOf] at p3; exact lst xs rfl p3
  | ref n =>
    simp only [fSl] at p3
    split at p3
    · rename_i xs e4; exact lst xs e4 p3
    · exact p3.elim
  | _ => exact p3.elim
end
end
end Z
end

section
set_option Elab.async false
set_option linter.all false
set_option maxRecDepth 100000
set_option maxHeartbeats 1000000
namespace Z
noncomputable section
open PySem PySem.Spec PyProof.Rows L2

/-! ### ==, in -/
mutual
def pyD : D → Option PyData
  | .non => some .none
  | .bl b => some (.bool b)
  | .int i => some (.int i)
  | .str x => some (.str x)
  | .tup xs => (pyA xs).map .tuple
  | .lst xs => (pyA xs).map .list
  | .frz xs => (pyA xs).map .list
  | .ref _ => none
  | .err _ _ _ _ => none
def pyA : List D → Option (List PyData)
  | [] => some []
  | x :: xs => (pyD x).bind fun p => (pyA xs).map fun ps => p :: ps
end
def pyS (S : Sto) (x : D) : Option PyData := match x with
  | .ref n => match S[n]? with
    | some (.lst xs) => (pyA xs).map .list
    | none => none
  | x => pyD x
section
variable {K : PySem.W.Frag} {H : Hp} {ι : Em}
mutual
theorem dp_of : ∀ {d : D} {v : V} {p : PyData}, Rp K H ι v d → pyD d = some p → Dp K H v p
  | .non, _, _, r, e => by cases r; cases e; exact .non
  | .bl b, _, _, r, e => by cases r; cases e; exact .bl b
  | .int b, _, _, r, e => by cases r; cases e; exact .int b
  | .str b, _, _, r, e => by cases r; cases e; exact .str b
  | .tup xs, _, _, r, e => by
    obtain ⟨a, vs, rfl, hs, rs⟩ := r.tup_inv
    rw [pyD] at e
    cases q : pyA xs with
    | none => rw [q] at e; cases e
    | some ps => rw [q] at e; cases e; exact .tup hs (dps_of rs q)
  | .lst xs, _, _, r, e => by
    obtain ⟨a, vs, rfl, _, hs, rs⟩ := r.lst_inv
    rw [pyD] at e
    cases q : pyA xs with
    | none => rw [q] at e; cases e
    | some ps => rw [q] at e; cases e; exact .lst (.of hs) (dps_of rs q)
  | .frz xs, _, _, r, e => by
    obtain ⟨a, vs, rfl, hs, rs⟩ := r.frz_inv
    rw [pyD] at e
    cases q : pyA xs with
    | none => rw [q] at e; cases e
    | some ps => rw [q] at e; cases e; exact .lst hs (dps_of rs q)
  | .ref _, _, _, _, e => by rw [pyD] at e; cases e
  | .err _ _ _ _, _, _, _, e => by rw [pyD] at e; cases e
theorem dps_of : ∀ {ds : List D} {vs : List V} {ps : List PyData}, Rps K H ι vs ds → pyA ds = some ps → DpAll K H vs ps
  | [], _, _, r, e => by cases r; cases e; exact .nil
  | d :: ds, _, _, r, e => by
    cases r with
    | cons r rs =>
      rw [pyA] at e
      cases q : pyD d with
      | none => rw [q] at e; cases e
      | some p =>
        rw [q] at e
        cases q2 : pyA ds with
        | none => rw [q2] at e; cases e
        | some ps => rw [q2] at e; cases e; exact .cons (dp_of r q) (dps_of rs q2)
end
theorem dpS_of {S : Sto} (s : Sr K H ι S) {d : D} {v : V} {p : PyData} (r : Rp K H ι v d) (e : pyS S d = some p) : Dp K H v p := by
  cases d with
  | ref n =>
    obtain ⟨a, rfl, e2⟩ := r.ref_inv
    simp only [pyS] at e
    split at e
    · rename_i xs e3
      obtain ⟨vs, h1, h2⟩ := s.list e2 e3
      cases q : pyA xs with
      | none => rw [q] at e; cases e
      | some ps => rw [q] at e; cases e; exact .lst (.of h1) (dps_of h2 q)
    · cases e
  | _ => exact dp_of r e
end
def eqN (neg : Bool) (x y : D) (S : Sto) : R D := match pyS S x, pyS S y with
  | some p, some q => if SeqAt.shaped p = true ∧ SeqAt.shaped q = true then .ok (.bl (if neg then !(PyData.eqv p q) else PyData.eqv p q)) S else .bad
  | _, _ => .bad
/-- == (neg: !=) -/
def fEq (neg : Bool) (x y : D) (S : Sto) : R D := match x with
  | .int i => match y with
    | .int j => .ok (.bl (if neg then !decide (i = j) else decide (i = j))) S
    | .non => .ok (.bl neg) S
    | .str _ => .ok (.bl neg) S
    | _ => eqN neg x y S
  | .str i => match y with
    | .str j => .ok (.bl (if neg then !decide (i = j) else decide (i = j))) S
    | .non => .ok (.bl neg) S
    | .int _ => .ok (.bl neg) S
    | .bl _ => .ok (.bl neg) S
    | _ => eqN neg x y S
  | .bl i => match y with
    | .bl j => .ok (.bl (if neg then !decide (i = j) else decide (i = j))) S
    | .non => .ok (.bl neg) S
    | .str _ => .ok (.bl neg) S
    | _ => eqN neg x y S
  | _ => eqN neg x y S
section
variable {K : PySem.W.Frag} {X : Cx}
def rEqZ (K : PySem.W.Frag) : R2 := fun x y H Q => rEq x y H Q ∨ rEqD K x y H Q
def rNeZ (K : PySem.W.Frag) : R2 := fun x y H Q => rNe x y H Q ∨ rNeD K x y H Q
theorem oEq (hu : X.A.units + 64 < cLine) : OpR X (compareOp .Eq) (rEqZ X.K) := op_eq.or (op_eqD hu)
theorem oNe (hu : X.A.units + 64 < cLine) : OpR X (compareOp .NotEq) (rNeZ X.K) := op_ne.or (op_neD hu)
theorem eqN_ok {mg : Str → Option Value} {W : WX} {σ : L2.St} {ι : Em} {H : Hp} {S : Sto} {x y : V} {dx dy : D} {Q : VK} {neg : Bool} (s : Sr K H ι S) (rx : Rp K H ι x dx) (ry : Rp K H ι y dy) (p : Post K mg (Rp K) W σ ι H (eqN neg dx dy S) Q) :
    ∃ d e, Dp K H x d ∧ Dp K H y e ∧ SeqAt.shaped d = true ∧ SeqAt.shaped e = true ∧ Q (.bl (if neg then !(PyData.eqv d e) else PyData.eqv d e)) H := by
  unfold eqN at p
  split at p
  · rename_i d e h1 h2
    split at p
    · rename_i hs
      exact ⟨d, e, dpS_of s rx h1, dpS_of s ry h2, hs.1, hs.2, p.ret s (.bl _)⟩
    · exact p.elim
  · exact p.elim
theorem fEq_ok {mg : Str → Option Value} {W : WX} {σ : L2.St} {ι : Em} {H : Hp} {S : Sto} {x y : V} {dx dy : D} {Q : VK} {neg : Bool} (s : Sr K H ι S) (rx : Rp K H ι x dx) (ry : Rp K H ι y dy) (p : Post K mg (Rp K) W σ ι H (fEq neg dx dy S) Q) :
    (scal x y = true ∧ Q (.bl (if neg then !decide (x = y) else decide (x = y))) H) ∨ ∃ d e, Dp K H x d ∧ Dp K H y e ∧ SeqAt.shaped d = true ∧ SeqAt.shaped e = true ∧ Q (.bl (if neg then !(PyData.eqv d e) else PyData.eqv d e)) H := by
  have hF : ∀ (a b : V), a ≠ b → (if neg = true then !decide (a = b) else decide (a = b)) = neg := fun a b h => by
    rw [decide_eq_false h]; cases neg <;> rfl
  have fin : ∀ (a b : V), scal a b = true → a ≠ b → x = a → y = b → Post K mg (Rp K) W σ ι H (.ok (.bl neg) S) Q → (scal x y = true ∧ Q (.bl (if neg then !decide (x = y) else decide (x = y))) H) := fun a b h1 h2 e1 e2 p => by
    subst e1; subst e2
    exact ⟨h1, by rw [hF _ _ h2]; exact p.ret s (.bl _)⟩
  cases dx with
  | int i =>
    cases rx
    cases dy with
    | int j => cases ry; exact .inl ⟨rfl, by have q := p.ret s (.bl _); simpa using q⟩
    | non => cases ry; exact .inl (fin _ _ rfl (by simp) rfl rfl p)
    | str j => cases ry; exact .inl (fin _ _ rfl (by simp) rfl rfl p)
    | _ => exact .inr (eqN_ok s (.int i) ry p)
  | str i =>
    cases rx
    cases dy with
    | str j => cases ry; exact .inl ⟨rfl, by have q := p.ret s (.bl _); simpa using q⟩
    | non => cases ry; exact .inl (fin _ _ rfl (by simp) rfl rfl p)
    | int j => cases ry; exact .inl (fin _ _ rfl (by simp) rfl rfl p)
    | bl j => cases ry; exact .inl (fin _ _ rfl (by simp) rfl rfl p)
    | _ => exact .inr (eqN_ok s (.str i) ry p)
  | bl i =>
    cases rx
    cases dy with
    | bl j => cases ry; exact .inl ⟨rfl, by have q := p.ret s (.bl _); simpa using q⟩
    | non => cases ry; exact .inl (fin _ _ rfl (by simp) rfl rfl p)
    | str j => cases ry; exact .inl (fin _ _ rfl (by simp) rfl rfl p)
    | _ => exact .inr (eqN_ok s (.bl i) ry p)
  | _ => exact .inr (eqN_ok s rx ry p)
theorem sEq : OpS K (rEqZ K) (fEq false) := fun mg W σ ι H S x y dx dy Q s rx ry p => fEq_ok s rx ry p
theorem sNe : OpS K (rNeZ K) (fEq true) := fun mg W σ ι H S x y dx dy Q s rx ry p => fEq_ok s rx ry p
/-- flat data as a value -/
def flatD : D → Option V
  | .non => some .non
  | .bl b => some (.bl b)
  | .int i => some (.int i)
  | .str x => some (.str x)
  | _ => none
def flatA : List D → Option (List V)
  | [] => some []
  | x :: xs => (flatD x).bind fun p => (flatA xs).map fun ps => p :: ps
theorem flatD_of {H : Hp} {ι : Em} {v w : V} {d : D} (r : Rp K H ι v d) (e : flatD d = some w) : v = w ∧ flatV v = true := by
  cases r <;> simp [flatD] at e <;> subst e <;> exact ⟨rfl, rfl⟩
theorem flatA_of {H : Hp} {ι : Em} : ∀ {ds : List D} {vs ws : List V}, Rps K H ι vs ds → flatA ds = some ws → vs = ws ∧ vs.all flatV = true
  | [], _, _, r, e => by cases r; cases e; exact ⟨rfl, rfl⟩
  | d :: ds, _, _, r, e => by
    cases r with
    | cons r rs =>
      rw [flatA] at e
      cases q : flatD d with
      | none => rw [q] at e; cases e
      | some p =>
        rw [q] at e
        cases q2 : flatA ds with
        | none => rw [q2] at e; cases e
        | some ps =>
          rw [q2] at e; cases e
          obtain ⟨h1, h2⟩ := flatD_of r q
          obtain ⟨h3, h4⟩ := flatA_of rs q2
          subst h1; subst h3
          exact ⟨rfl, by rw [List.all_cons, h2, h4]; rfl⟩
/-- x in a list or tuple, flat items -/
def fIn (neg : Bool) (x y : D) (S : Sto) : R D := match seqOf S y, flatD x with
  | some ys, some v => match flatA ys with
    | some vs => .ok (.bl (if neg then !inV v vs else inV v vs)) S
    | none => .bad
  | _, _ => .bad
theorem sIn {neg : Bool} : OpS K (rIn K neg) (fIn neg) := by
  intro mg W σ ι H S x y dx dy Q s rx ry p
  unfold fIn at p
  split at p
  · rename_i ys v e1 e2
    split at p
    · rename_i vs e3
      obtain ⟨a, us, rfl, hs, rs⟩ := seq_inv s ry e1
      obtain ⟨rfl, f1⟩ := flatD_of rx e2
      obtain ⟨rfl, f2⟩ := flatA_of rs e3
      exact ⟨a, us, rfl, hs, f1, f2, p.ret s (.bl _)⟩
    · exact p.elim
  · exact p.elim
end

/-! ### isinstance -/
inductive Ty where
  | int | tup | str | bool | list
def Ty.nm : Ty → String
  | .int => "int" | .tup => "tuple" | .str => "str" | .bool => "bool" | .list => "list"
def isTy : Ty → D → Bool
  | .int, .int _ => true
  | .int, .bl _ => true
  | .bool, .bl _ => true
  | .str, .str _ => true
  | .tup, .tup _ => true
  | .list, .lst _ => true
  | .list, .frz _ => true
  | .list, .ref _ => true
  | _, _ => false
def refOk (S : Sto) : D → Bool
  | .ref n => match S[n]? with
    | some (.lst _) => true
    | none => false
  | .err _ _ _ _ => false
  | _ => true
def fIsi (t : Ty) (x : D) (S : Sto) : R D := if refOk S x = true then .ok (.bl (isTy t x)) S else .bad
def dIsi (t : Ty) (a : Den) : Den := fun env S => (a env S).bind fun x S1 => fIsi t x S1
section
variable {X : Cx} {W : WX} {a : Expr} {da : Den} {p q pos : Pos}
theorem StT.ty {K : PySem.W.Frag} {H : Hp} {a : Addr} {xs : List V} (h : StT K a xs) : TyX K H (.ref a) (.type "tuple") := by
  obtain ⟨o, its, n, e, c, _⟩ := h; exact .kTuple e c
theorem StL.ty {K : PySem.W.Frag} {H : Hp} {a : Addr} {xs : List V} (h : StL K a xs) : TyX K H (.ref a) (.type "list") := by
  obtain ⟨o, its, n, e, c, _⟩ := h; exact .kList e c
theorem isi_ok {K : PySem.W.Frag} {H : Hp} {ι : Em} {S : Sto} {v : V} {d : D} {t : Ty} (s : Sr K H ι S) (r : Rp K H ι v d) (hr : refOk S d = true) : ∃ tv, TyX K H v tv ∧ PySem.W.kitOne K tv (.type t.nm) = some (isTy t d) := by
  cases r with
  | non => exact ⟨_, .base .non, by cases t <;> exact kit_ty (by decide +kernel)⟩
  | bl b => exact ⟨_, .base (.bl b), by cases t <;> exact kit_ty (by simp only [isTy]; decide +kernel)⟩
  | int b => exact ⟨_, .base (.int b), by cases t <;> exact kit_ty (by simp only [isTy]; decide +kernel)⟩
  | str b => exact ⟨_, .base (.str b), by cases t <;> exact kit_ty (by simp only [isTy]; decide +kernel)⟩
  | tup _ h2 _ => exact ⟨_, .base (.tup h2), by cases t <;> exact kit_ty (by simp only [isTy]; decide +kernel)⟩
  | tupK h _ => exact ⟨_, h.ty, by cases t <;> exact kit_ty (by simp only [isTy]; decide +kernel)⟩
  | lst _ h2 _ => exact ⟨_, .base (.lst h2), by cases t <;> exact kit_ty (by simp only [isTy]; decide +kernel)⟩
  | frz _ h2 _ => exact ⟨_, .base (.frz h2), by cases t <;> exact kit_ty (by simp only [isTy]; decide +kernel)⟩
  | frzK h _ => exact ⟨_, h.ty, by cases t <;> exact kit_ty (by simp only [isTy]; decide +kernel)⟩
  | ref h =>
    simp only [refOk] at hr
    split at hr
    · rename_i xs e
      obtain ⟨vs, h1, _⟩ := s.list h e
      exact ⟨_, .base (.lst h1), by cases t <;> exact kit_ty (by simp only [isTy]; decide +kernel)⟩
    · cases hr
  | err _ _ _ => cases hr
theorem e_isi (t : Ty) {x : Str} (hx : x = Str.ofString t.nm) (hg : Gl X "isinstance") (hm : X.mg "isinstance" = none) (hg2 : Gl X x) (hm2 : X.mg x = none) (ha : EE X W a da)
    (hs : starEach [a, .Name x q] X.env = (false, eval a X.env) :: starEach [.Name x q] X.env := by rfl) (hs2 : starEach [.Name x q] X.env = (false, eval (.Name x q) X.env) :: starEach [] X.env := by rfl) (hpl : (backTo pos (starEach [.Name x q] X.env)).any (·.1) = false := by rfl) :
    EE X W (.Call (.Name "isinstance" p) [a, .Name x q] [] pos) (dIsi t da) := by
  have hv : bootBuiltins x = some (.type t.nm) := by subst hx; cases t <;> decide +kernel
  have hn : x ≠ "__name__" := by subst hx; cases t <;> decide
  have hd : (x == ("__debug__" : Str)) = false := by subst hx; cases t <;> decide
  refine PE.imp (pe_callB call_isi hg hm (by decide +kernel) (pa_cons ha (pa_cons (pe_bltn (v := .ty t.nm) hg2 hm2 hv rfl hn hd) pa_nil hs2) hs) (by decide) (by decide) hs hpl) fun σ H Q h => ?_
  obtain ⟨ι, env, S, s, er, p⟩ := h
  refine ⟨ι, env, S, s, er, (Post.bind (Rel' := Rp X.K) p).mono ?_⟩
  rintro x H1 ⟨ι1, dx, S1, e1, s1, r1, p1⟩
  unfold fIsi at p1
  split at p1
  · rename_i hr
    obtain ⟨tv, h1, h2⟩ := isi_ok (t := t) s1 r1 hr
    exact ⟨x, .ty t.nm, tv, .type t.nm, isTy t dx, rfl, .ty _, h1, h2, p1.ret s1 (.bl _)⟩
  · exact p1.elim
end

/-! ### built-in functions by their rules -/
def dCB (f : List D → Sto → R D) (a : DenA) : Den := fun env S => (a env S).bind fun xs S1 => f xs S1
def CbS (K : PySem.W.Frag) (r : List V → Hp → VK → Prop) (f : List D → Sto → R D) : Prop :=
  ∀ (mg : Str → Option Value) (W : WX) (σ : L2.St) (ι : Em) (H : Hp) (S : Sto) (xs : List V) (ds : List D) (Q : VK), Sr K H ι S → Rps K H ι xs ds → Post K mg (Rp K) W σ ι H (f ds S) Q → r xs H Q
section
variable {X : Cx} {W : WX} {x : Str} {p pos : Pos} {e : Expr} {es : List Expr} {da : DenA} {id T : String} {r : List V → Hp → VK → Prop} {f : List D → Sto → R D}
theorem rd_cb {K : PySem.W.Frag} {mg : Str → Option Value} {σ : L2.St} {H : Hp} {Q : VK} (hf : CbS K r f) (h : rd K mg W (dCB f da) σ H Q) : tCB r (rdA K mg W da) σ H Q := by
  obtain ⟨ι, env, S, s, er, p⟩ := h
  refine ⟨ι, env, S, s, er, (Post.bind (Rel' := Rps K) p).mono ?_⟩
  rintro x H1 ⟨ι1, dx, S1, e1, s1, r1, p1⟩
  exact hf mg W σ ι1 H1 S1 x dx Q s1 r1 p1
theorem e_cb (hc : CallR X (.builtin id) r) (hf : CbS X.K r f) (hg : Gl X x) (hm : X.mg x = none) (hv : bootBuiltins x = some (.builtin id)) (ha : AA X W (e :: es) da) (hn : x ≠ "__name__" := by decide) (hdb : (x == ("__debug__" : Str)) = false := by decide)
    (he : starEach (e :: es) X.env = (false, eval e X.env) :: starEach es X.env := by rfl) (hpl : (backTo pos (starEach es X.env)).any (·.1) = false := by rfl) : EE X W (.Call (.Name x p) (e :: es) [] pos) (dCB f da) := PE.imp (pe_callB hc hg hm hv ha hn hdb he hpl) fun _ _ _ h => rd_cb hf h
theorem e_ct (hc : CallR X (.type T) r) (hf : CbS X.K r f) (hg : Gl X x) (hm : X.mg x = none) (hv : bootBuiltins x = some (.type T)) (ha : AA X W (e :: es) da) (hn : x ≠ "__name__" := by decide) (hdb : (x == ("__debug__" : Str)) = false := by decide)
    (he : starEach (e :: es) X.env = (false, eval e X.env) :: starEach es X.env := by rfl) (hpl : (backTo pos (starEach es X.env)).any (·.1) = false := by rfl) : EE X W (.Call (.Name x p) (e :: es) [] pos) (dCB f da) := PE.imp (pe_callTy hc hg hm hv ha hn hdb he hpl) fun _ _ _ h => rd_cb hf h
theorem e_cf (hc : CallR X (.builtin id) r) (hf : CbS X.K r f) (hg : Gl X x) (hm : X.mg x = some (.builtin id)) (ha : AA X W (e :: es) da) (hdb : (x == ("__debug__" : Str)) = false := by decide)
    (he : starEach (e :: es) X.env = (false, eval e X.env) :: starEach es X.env := by rfl) (hpl : (backTo pos (starEach es X.env)).any (·.1) = false := by rfl) : EE X W (.Call (.Name x p) (e :: es) [] pos) (dCB f da) := PE.imp (pe_callBfun hc hg hm ha hdb he hpl) fun _ _ _ h => rd_cb hf h
end
def fLen (xs : List D) (S : Sto) : R D := match xs with
  | [x] => match seqOf S x with
    | some ys => .ok (.int ys.length) S
    | none => match x with
      | .str z => if Fit z.length then .ok (.int z.length) S else .bad
      | _ => .bad
  | _ => .bad
def fMax2 (xs : List D) (S : Sto) : R D := match xs with
  | [.int i, .int j] => .ok (.int (if j > i then j else i)) S
  | _ => .bad
def fMin2 (xs : List D) (S : Sto) : R D := match xs with
  | [.int i, .int j] => .ok (.int (if j < i then j else i)) S
  | _ => .bad
def fInt (xs : List D) (S : Sto) : R D := match xs with
  | [.int i] => .ok (.int i) S
  | [.bl b] => .ok (.int (if b then 1 else 0)) S
  | _ => .bad
def fAbs (xs : List D) (S : Sto) : R D := match xs with
  | [.int i] => .ok (.int (if i < 0 then -i else i)) S
  | _ => .bad
def fGcd (xs : List D) (S : Sto) : R D := match xs with
  | [.int i, .int j] => .ok (.int ((Nat.gcd i.natAbs j.natAbs : Nat) : Int)) S
  | _ => .bad
def fList (c : Bool) (xs : List D) (S : Sto) : R D := match xs with
  | [x] => match seqOf S x with
    | some ys => mkL c ys S
    | none => .bad
  | _ => .bad
def fTuple (xs : List D) (S : Sto) : R D := match xs with
  | [.tup ys] => .ok (.tup ys) S
  | [x] => match lstOf S x with
    | some ys => mkT ys S
    | none => .bad
  | _ => .bad
section
variable {K : PySem.W.Frag}
theorem rps1 {H : Hp} {ι : Em} {xs : List V} {d : D} (r : Rps K H ι xs [d]) : ∃ x, xs = [x] ∧ Rp K H ι x d := by
  cases r with | cons r rs => cases rs; exact ⟨_, rfl, r⟩
theorem rps2 {H : Hp} {ι : Em} {xs : List V} {d e : D} (r : Rps K H ι xs [d, e]) : ∃ x y, xs = [x, y] ∧ Rp K H ι x d ∧ Rp K H ι y e := by
  cases r with | cons r rs => cases rs with | cons r2 rs => cases rs; exact ⟨_, _, rfl, r, r2⟩
theorem rps3 {H : Hp} {ι : Em} {xs : List V} {d e f : D} (r : Rps K H ι xs [d, e, f]) : ∃ x y z, xs = [x, y, z] ∧ Rp K H ι x d ∧ Rp K H ι y e ∧ Rp K H ι z f := by
  cases r with | cons r rs => cases rs with | cons r2 rs => cases rs with | cons r3 rs => cases rs; exact ⟨_, _, _, rfl, r, r2, r3⟩
theorem sLen : CbS K (fun xs H Q => ∃ x n, xs = [x] ∧ LenV K x H n ∧ Q (.int n) H) fLen := by
  intro mg W σ ι H S xs ds Q s r p
  unfold fLen at p
  split at p
  · rename_i d
    obtain ⟨x, rfl, r0⟩ := rps1 r
    clear r
    split at p
    · rename_i ys e
      obtain ⟨a, vs, rfl, hs, rs⟩ := seq_inv s r0 e
      refine ⟨_, _, rfl, ?_, p.ret s (.int _)⟩
      rcases hs with hs | hs
      · exact .inl ⟨vs, hs, by rw [rs.length]⟩
      · exact .inr ⟨vs, hs, by rw [rs.length]⟩
    · cases d with
      | str z =>
        cases r0
        simp only at p
        split at p
        · rename_i hz; exact ⟨.str z, z.length, rfl, ⟨hz, rfl⟩, p.ret s (.int _)⟩
        · exact p.elim
      | _ => exact p.elim
  · exact p.elim
theorem sMax2 : CbS K (fun xs H Q => ∃ i j, xs = [.int i, .int j] ∧ Q (.int (if j > i then j else i)) H) fMax2 := by
  intro mg W σ ι H S xs ds Q s r p
  unfold fMax2 at p
  split at p
  · obtain ⟨x, y, rfl, r1, r2⟩ := rps2 r
    cases r1; cases r2; exact ⟨_, _, rfl, p.ret s (.int _)⟩
  · exact p.elim
theorem sMin2 : CbS K (fun xs H Q => ∃ i j, xs = [.int i, .int j] ∧ Q (.int (if j < i then j else i)) H) fMin2 := by
  intro mg W σ ι H S xs ds Q s r p
  unfold fMin2 at p
  split at p
  · obtain ⟨x, y, rfl, r1, r2⟩ := rps2 r
    cases r1; cases r2; exact ⟨_, _, rfl, p.ret s (.int _)⟩
  · exact p.elim
theorem sInt : CbS K (fun xs H Q => (∃ i, xs = [.int i] ∧ Q (.int i) H) ∨ ∃ k, xs = [.bl k] ∧ Q (.int (if k then 1 else 0)) H) fInt := by
  intro mg W σ ι H S xs ds Q s r p
  unfold fInt at p
  split at p
  · obtain ⟨x, rfl, r1⟩ := rps1 r
    cases r1; exact .inl ⟨_, rfl, p.ret s (.int _)⟩
  · obtain ⟨x, rfl, r1⟩ := rps1 r
    cases r1; exact .inr ⟨_, rfl, p.ret s (.int _)⟩
  · exact p.elim
theorem sAbs : CbS K (fun xs H Q => ∃ i, xs = [.int i] ∧ Q (.int (if i < 0 then -i else i)) H) fAbs := by
  intro mg W σ ι H S xs ds Q s r p
  unfold fAbs at p
  split at p
  · obtain ⟨x, rfl, r1⟩ := rps1 r
    cases r1; exact ⟨_, rfl, p.ret s (.int _)⟩
  · exact p.elim
theorem sGcd : CbS K rGcd fGcd := by
  intro mg W σ ι H S xs ds Q s r p
  unfold fGcd at p
  split at p
  · obtain ⟨x, y, rfl, r1, r2⟩ := rps2 r
    cases r1; cases r2; exact ⟨_, _, rfl, p.ret s (.int _)⟩
  · exact p.elim
theorem sList (c : Bool) : CbS K (fun xs H Q => ∃ p ys, xs = [.ref p] ∧ (SqL K H p ys ∨ SqT K H p ys) ∧ ∀ l, H l = none → Q (.ref l) (upd H l (.lst ys))) (fList c) := by
  intro mg W σ ι H S xs ds Q s r p
  unfold fList at p
  split at p
  · obtain ⟨x, rfl, r0⟩ := rps1 r
    clear r
    split at p
    · rename_i ys e
      obtain ⟨a, vs, rfl, hs, rs⟩ := seq_inv s r0 e
      exact ⟨a, vs, rfl, hs, (p.mkL s rs).2⟩
    · exact p.elim
  · exact p.elim
theorem sTuple : CbS K (fun xs H Q => ∃ p ys, xs = [.ref p] ∧ ((SqL K H p ys ∧ ∀ l, H l = none → Q (.ref l) (upd H l (.tup ys))) ∨ (SqT K H p ys ∧ Q (.ref p) H))) fTuple := by
  intro mg W σ ι H S xs ds Q s r p
  unfold fTuple at p
  split at p
  · obtain ⟨x, rfl, r0⟩ := rps1 r
    clear r
    obtain ⟨a, vs, rfl, hs, rs⟩ := r0.tup_inv
    exact ⟨a, vs, rfl, .inr ⟨hs, p.ret s r0⟩⟩
  · obtain ⟨x, rfl, r0⟩ := rps1 r
    clear r
    split at p
    · rename_i ys e
      obtain ⟨a, vs, rfl, hs, rs⟩ := lst_inv s r0 e
      exact ⟨a, vs, rfl, .inl ⟨hs, (p.mkT s rs).2⟩⟩
    · exact p.elim
  · exact p.elim
end
end
end Z
end

section
set_option Elab.async false
set_option linter.all false
set_option maxRecDepth 100000
set_option maxHeartbeats 1000000
namespace Z
noncomputable section
open PySem PySem.Spec PyProof.Rows L2

/-! ### statements -/
inductive F where
  | nx (e : Env) (S : Sto)
  | rt (d : D) (S : Sto)
  | bk (e : Env) (S : Sto)
  | ct (e : Env) (S : Sto)
  | ex (c : Str) (fs : List (Str × D)) (e : Env) (S : Sto)
  | bad
abbrev SDen := Env → Sto → F
def R.lift {α : Type} (r : R α) (e : Env) (k : α → Sto → F) : F := match r with
  | .ok a S => k a S
  | .ex c fs S => .ex c fs e S
  | .bad => .bad
def F.then (f : F) (k : SDen) : F := match f with
  | .nx e S => k e S
  | f => f
def PostS (K : PySem.W.Frag) (mg : Str → Option Value) (W : WX) (ι : Em) (H : Hp) (f : F) (Dn : Ends) : Prop := match f with
  | .nx e S' => ∀ ι' H' σ', Ext ι H ι' H' → Sr K H' ι' S' → Er K H' ι' σ' e → Dn.nx σ' H'
  | .rt d S' => ∀ ι' H' v, Ext ι H ι' H' → Sr K H' ι' S' → Rp K H' ι' v d → Dn.rt v H'
  | .bk e S' => ∀ ι' H' σ', Ext ι H ι' H' → Sr K H' ι' S' → Er K H' ι' σ' e → Dn.bk σ' H'
  | .ct e S' => ∀ ι' H' σ', Ext ι H ι' H' → Sr K H' ι' S' → Er K H' ι' σ' e → Dn.ct σ' H'
  | .ex c fs e S' => ∀ ι' H' σ' dd C gs, Ext ι H ι' H' → Sr K H' ι' S' → Er K H' ι' σ' e → mg c = some (.ref C) → H' dd = some (.xd ((fs.map (·.1)).zip gs)) → ¬ ι'.has dd → Rps K H' ι' gs (fs.map (·.2)) → W (.ref C) (some dd) σ' H'
  | .bad => False
def rdS (K : PySem.W.Frag) (mg : Str → Option Value) (W : WX) (d : SDen) : TS := fun Dn σ H => ∃ ι env S, Sr K H ι S ∧ Er K H ι σ env ∧ PostS K mg W ι H (d env S) Dn
section
variable {K : PySem.W.Frag} {mg : Str → Option Value} {W : WX} {σ : L2.St} {ι ι' : Em} {H H' : Hp} {S : Sto} {Dn : Ends}
theorem PostS.ext {f : F} (h : PostS K mg W ι H f Dn) (e : Ext ι H ι' H') (s : Sr K H' ι' S) : PostS K mg W ι' H' f Dn := by
  cases f with
  | nx e' S' => exact fun ι2 H2 σ' e2 s2 r2 => h ι2 H2 σ' (e.tr s e2) s2 r2
  | rt e' S' => exact fun ι2 H2 σ' e2 s2 r2 => h ι2 H2 σ' (e.tr s e2) s2 r2
  | bk e' S' => exact fun ι2 H2 σ' e2 s2 r2 => h ι2 H2 σ' (e.tr s e2) s2 r2
  | ct e' S' => exact fun ι2 H2 σ' e2 s2 r2 => h ι2 H2 σ' (e.tr s e2) s2 r2
  | ex c fs e' S' => exact fun ι2 H2 σ' dd C gs e2 s2 r2 => h ι2 H2 σ' dd C gs (e.tr s e2) s2 r2
  | bad => exact h
/-- an expression's result, then what is done with it -/
theorem PostS.lift {α β : Type} {Rel : Hp → Em → β → α → Prop} {r : R α} {env : Env} {k : α → Sto → F} (h : PostS K mg W ι H (r.lift env k) Dn) (er : Er K H ι σ env) :
    Post K mg Rel W σ ι H r (fun x H1 => ∃ ι1 a S1, Ext ι H ι1 H1 ∧ Sr K H1 ι1 S1 ∧ Rel H1 ι1 x a ∧ PostS K mg W ι1 H1 (k a S1) Dn) := by
  cases r with
  | ok a S' => exact fun ι2 H2 v e2 s2 r2 => ⟨ι2, a, S', e2, s2, r2, PostS.ext h e2 s2⟩
  | ex c fs S' => exact fun ι2 H2 dd C gs e2 s2 hc hd hn hl => h ι2 H2 σ dd C gs e2 s2 (er.ext e2) hc hd hn hl
  | bad => exact h
theorem PostS.then {f : F} {k : SDen} (h : PostS K mg W ι H (f.then k) Dn) : PostS K mg W ι H f { Dn with nx := rdS K mg W k Dn } := by
  cases f with
  | nx e' S' => exact fun ι2 H2 σ' e2 s2 r2 => ⟨ι2, e', S', s2, r2, PostS.ext h e2 s2⟩
  | rt e' S' => exact h
  | bk e' S' => exact h
  | ct e' S' => exact h
  | ex c fs e' S' => exact h
  | bad => exact h
theorem PostS.nx {env : Env} (h : PostS K mg W ι H (.nx env S) Dn) (s : Sr K H ι S) (r : Er K H ι σ env) : Dn.nx σ H := h ι H σ Ext.refl s r
end
def sSeq (a b : SDen) : SDen := fun env S => (a env S).then b
def sNil : SDen := fun env S => .nx env S
def sSet (i : Nat) (d : Den) : SDen := fun env S => (d env S).lift env fun x S1 => .nx (env.set i (some x)) S1
def sRet (d : Den) : SDen := fun env S => (d env S).lift env fun x S1 => .rt x S1
def sDrop (d : Den) : SDen := fun env S => (d env S).lift env fun _ S1 => .nx env S1
def sIf (t : DenT) (a b : SDen) : SDen := fun env S => (t env S).lift env fun c S1 => if c then a env S1 else b env S1
def sBk : SDen := fun env S => .bk env S
def sCt : SDen := fun env S => .ct env S
section
variable {X : Cx} {W : WX} {e a b : Expr} {d da db : Den} {st : Stmt} {sts sts2 : List Stmt} {ds ds2 : SDen} {t : DenT} {pos : Pos}
abbrev SS (X : Cx) (W : WX) (st : Stmt) (d : SDen) : Prop := PS X st (rdS X.K X.mg W d)
abbrev SSs (X : Cx) (W : WX) (st : List Stmt) (d : SDen) : Prop := PSs X st (rdS X.K X.mg W d)
theorem ss_nil : SSs X W [] sNil := PSs.imp pss_nil fun Dn σ H h => by
  obtain ⟨ι, env, S, s, er, p⟩ := h
  exact p.nx s er
theorem ss_cons (h1 : SS X W st ds) (h2 : SSs X W sts ds2) : SSs X W (st :: sts) (sSeq ds ds2) := PSs.imp (pss_cons h1 h2) fun Dn σ H h => by
  obtain ⟨ι, env, S, s, er, p⟩ := h
  exact ⟨ι, env, S, s, er, p.then⟩
theorem ss_one (h1 : SS X W st ds) : SSs X W [st] ds := pss_one h1
theorem s_pass : SS X W (.Pass pos) sNil := PS.imp ps_pass fun Dn σ H h => by
  obtain ⟨ι, env, S, s, er, p⟩ := h
  exact p.nx s er
theorem s_bk : SS X W (.Break pos) sBk := PS.imp ps_break fun Dn σ H h => by
  obtain ⟨ι, env, S, s, er, p⟩ := h
  exact p ι H σ Ext.refl s er
theorem s_ct : SS X W (.Continue pos) sCt := PS.imp ps_continue fun Dn σ H h => by
  obtain ⟨ι, env, S, s, er, p⟩ := h
  exact p ι H σ Ext.refl s er
theorem s_ret (h : EE X W e d) : SS X W (.Return (some e) pos) (sRet d) := PS.imp (ps_ret h) fun Dn σ H h => by
  obtain ⟨ι, env, S, s, er, p⟩ := h
  refine ⟨ι, env, S, s, er, (PostS.lift (Rel := Rp X.K) p er).mono ?_⟩
  rintro x H1 ⟨ι1, dx, S1, e1, s1, r1, p1⟩
  exact p1 ι1 H1 x Ext.refl s1 r1
theorem s_expr (h : EE X W e d) (hs : swapsWith e none pos.line X.env = pure false := by rfl) : SS X W (.Expr e pos) (sDrop d) := PS.imp (ps_expr h hs) fun Dn σ H h => by
  obtain ⟨ι, env, S, s, er, p⟩ := h
  refine ⟨ι, env, S, s, er, (PostS.lift (Rel := Rp X.K) p er).mono ?_⟩
  rintro x H1 ⟨ι1, dx, S1, e1, s1, r1, p1⟩
  exact p1.nx s1 (er.ext e1)
theorem s_set {i : Nat} {x : Str} {pos' : Pos} (hN : X.N.Nodup) (h : EE X W e d) (hi : X.N[i]? = some x := by rfl) (hx : Loc X.env.scope x := by first | exact Or.inl rfl | exact Or.inr rfl) (hs : swapsWith e (some (.Name x pos')) pos.line X.env = pure false := by rfl)
    (hf : X.fn x = true ∨ X.env.scope.names.lookup x = some .local := by first | exact .inl rfl | exact .inr rfl) : SS X W (.Assign [.Name x pos'] e pos) (sSet i d) := PS.imp (ps_set hN hi hx h hs hf) fun Dn σ H h => by
  obtain ⟨ι, env, S, s, er, p⟩ := h
  refine ⟨ι, env, S, s, er, (PostS.lift (Rel := Rp X.K) p er).mono ?_⟩
  rintro x H1 ⟨ι1, dx, S1, e1, s1, r1, p1⟩
  exact p1.nx s1 ((er.ext e1).set r1)
theorem s_if (hc : TT' X W e t) (ha : SSs X W sts ds) (hb : SSs X W sts2 ds2) : SS X W (.If e sts sts2 pos) (sIf t ds ds2) := PS.imp (ps_if hc ha hb) fun Dn σ H h => by
  obtain ⟨ι, env, S, s, er, p⟩ := h
  refine ⟨ι, env, S, s, er, (PostS.lift (Rel := fun _ _ b c => b = c) p er).mono ?_⟩
  rintro x H1 ⟨ι1, dx, S1, e1, s1, rfl, p1⟩
  cases x with
  | true => rw [if_pos rfl]; exact ⟨ι1, env, S1, s1, er.ext e1, p1⟩
  | false => rw [if_neg Bool.false_ne_true]; exact ⟨ι1, env, S1, s1, er.ext e1, p1⟩
end

/-! ### targets -/
structure Tg where
  run : D → Env → Option Env
  sl : List Nat
def gN (i : Nat) : Tg := ⟨fun x env => some (env.set i (some x)), [i]⟩
def gAll : List Tg → List D → Env → Option Env
  | [], [], env => some env
  | t :: ts, x :: xs, env => (t.run x env).bind fun env => gAll ts xs env
  | _, _, _ => none
def slAll : List Tg → List Nat
  | [] => []
  | t :: ts => t.sl ++ slAll ts
def gT (ts : List Tg) : Tg := ⟨fun x env => match x with
  | .tup xs => gAll ts xs env
  | _ => none, slAll ts⟩
def setsV (σ : L2.St) : List (Nat × V) → L2.St
  | [] => σ
  | (i, v) :: r => setsV (σ.set i (some v)) r
theorem setsV_app (σ : L2.St) : ∀ (a b : List (Nat × V)), setsV σ (a ++ b) = setsV (setsV σ a) b
  | [], _ => rfl
  | (i, v) :: r, b => by rw [List.cons_append]; exact setsV_app _ r b
def rdG (K : PySem.W.Frag) (t : Tg) : TG := fun v σ H Q => ∃ ι env x env', Er K H ι σ env ∧ Rp K H ι v x ∧ t.run x env = some env' ∧ ∀ ws : List (Nat × V), (∀ p ∈ ws, p.1 ∈ t.sl) → Er K H ι (setsV σ ws) env' → Q (setsV σ ws) H
def rdGs (K : PySem.W.Frag) (ts : List Tg) : TGs := fun vs σ H Q => ∃ ι env xs env', Er K H ι σ env ∧ Rps K H ι vs xs ∧ gAll ts xs env = some env' ∧ ∀ ws : List (Nat × V), (∀ p ∈ ws, p.1 ∈ slAll ts) → Er K H ι (setsV σ ws) env' → Q (setsV σ ws) H
section
variable {X : Cx} {pos : Pos}
abbrev GG (X : Cx) (e : Expr) (t : Tg) : Prop := PG X e (rdG X.K t)
abbrev GGs (X : Cx) (e : List Expr) (t : List Tg) : Prop := PGs X e (rdGs X.K t)
theorem PG.imp {e : Expr} {t t' : TG} (h : PG X e t) (f : ∀ v σ H Q, t' v σ H Q → t v σ H Q) : PG X e t' := ⟨fun pins s σ H v u Q I r q => h.run pins s σ H v u Q I r (f v σ H Q q)⟩
theorem PGs.imp {e : List Expr} {t t' : TGs} (h : PGs X e t) (f : ∀ v σ H Q, t' v σ H Q → t v σ H Q) : PGs X e t' := ⟨fun pins s σ H v u Q I r q => h.run pins s σ H v u Q I r (f v σ H Q q)⟩
theorem g_n (i : Nat) {x : Str} (hN : X.N.Nodup) (hi : X.N[i]? = some x := by rfl) (hx : Loc X.env.scope x := by first | exact Or.inl rfl | exact Or.inr rfl) (hf : X.fn x = true ∨ X.env.scope.names.lookup x = some .local := by first | exact .inl rfl | exact .inr rfl) : GG X (.Name x pos) (gN i) :=
  PG.imp (pg_name hN hi hx hf) fun v σ H Q h => by
    obtain ⟨ι, env, x, env', er, r, e, q⟩ := h
    cases e
    exact q [(i, v)] (by simp [gN]) (er.set r)
theorem gs_nil : GGs X [] [] := PGs.imp pgs_nil fun v σ H Q h => by
  obtain ⟨ι, env, xs, env', er, r, e, q⟩ := h
  cases xs with
  | nil => cases r; cases e; exact ⟨rfl, q [] (by simp) er⟩
  | cons x xs => cases e
theorem gs_cons {e : Expr} {es : List Expr} {t : Tg} {ts : List Tg} (h1 : GG X e t) (h2 : GGs X es ts) (hs : (assignEach (e :: es) X.env).map (·.2) = assign e X.env :: (assignEach es X.env).map (·.2) := by rfl) : GGs X (e :: es) (t :: ts) := PGs.imp (pgs_cons h1 h2 hs) fun v σ H Q h => by
  obtain ⟨ι, env, xs, env', er, r, e, q⟩ := h
  cases xs with
  | nil => cases e
  | cons x xs =>
    cases r with
    | cons r rs =>
      cases q1 : t.run x env with
      | none => rw [gAll, q1] at e; cases e
      | some env1 =>
        rw [gAll, q1] at e
        refine ⟨_, _, rfl, ι, env, x, env1, er, r, q1, fun ws hw er' => ⟨ι, env1, xs, env', er', rs, e, fun us hu er2 => ?_⟩⟩
        have e3 := setsV_app σ ws us
        rw [← e3] at er2 ⊢
        exact q (ws ++ us) (fun p hp => by
          rcases List.mem_append.mp hp with hp | hp
          · exact List.mem_append_left _ (hw p hp)
          · exact List.mem_append_right _ (hu p hp)) er2
theorem gAll_len : ∀ {ts : List Tg} {xs : List D} {env env' : Env}, gAll ts xs env = some env' → xs.length = ts.length
  | [], [], _, _, _ => rfl
  | t :: ts, x :: xs, env, env', e => by
    cases q1 : t.run x env with
    | none => rw [gAll, q1] at e; cases e
    | some env1 => rw [gAll, q1] at e; simp [gAll_len (ts := ts) (xs := xs) e]
  | [], x :: xs, _, _, e => by cases e
  | t :: ts, [], _, _, e => by cases e
theorem g_t {es : List Expr} {k : Nat} {ts : List Tg} (hc : X.calm = true) (h : GGs X es ts) (hn : (assignEach es X.env).length = ts.length := by rfl) (hst : (assignEach es X.env).findIdx? (·.1) = none := by rfl) : GG X (.Tuple es k pos) (gT ts) :=
  PG.imp (pg_tup (n := ts.length) hc h hn hst) fun v σ H Q h => by
    obtain ⟨ι, env, x, env', er, r, e, q⟩ := h
    cases x with
    | tup xs =>
      obtain ⟨a, vs, rfl, hs, rs⟩ := r.tup_inv
      exact ⟨a, vs, rfl, hs, by rw [rs.length]; exact gAll_len e, ι, env, xs, env', er, rs, e, q⟩
    | _ => cases e
end
/-- target = e -/
def sAsg (t : Tg) (d : Den) : SDen := fun env S => (d env S).lift env fun x S1 => match t.run x env with
  | some env' => .nx env' S1
  | none => .bad
/-- xs[i] = e of a list that is a cell -/
def sPut (o i d : Den) : SDen := fun env S => (d env S).lift env fun x S1 => (o env S1).lift env fun l S2 => (i env S2).lift env fun j S3 => match l, j with
  | .ref n, .int k => match S3[n]? with
    | some (.lst xs) => match ixN xs.length k with
      | some j => .nx env (S3.set n (.lst (xs.set j x)))
      | none => .bad
    | none => .bad
  | _, _ => .bad
section
variable {X : Cx} {W : WX} {tg e o i : Expr} {d dd di : Den} {t : Tg} {pos : Pos}
theorem s_asg (h : EE X W e d) (hg : GG X tg t) (hs : swapsWithSole [tg] e pos.line X.env = pure false := by rfl) (hw : swappedStores [tg] e X.env = pure none := by rfl) (h1 : (assignEach [tg] X.env).map (·.2) = [assign tg X.env] := by rfl) : SS X W (.Assign [tg] e pos) (sAsg t d) := PS.imp (ps_asg h hg hs hw h1) fun Dn σ H h => by
  obtain ⟨ι, env, S, s, er, p⟩ := h
  refine ⟨ι, env, S, s, er, (PostS.lift (Rel := Rp X.K) p er).mono ?_⟩
  rintro x H1 ⟨ι1, dx, S1, e1, s1, r1, p1⟩
  split at p1
  · rename_i env' e2
    exact ⟨ι1, env, dx, env', er.ext e1, r1, e2, fun ws _ er' => p1.nx s1 er'⟩
  · exact p1.elim
theorem s_put {tpos : Pos} (hg : PG X (.Subscript o i tpos) (gSub (rd X.K X.mg W dd) (rd X.K X.mg W di) rSetL)) (h : EE X W e d) (h1 : (assignEach [.Subscript o i tpos] X.env).map (·.2) = [assign (.Subscript o i tpos) X.env])
    (hs : swapsWithSole [.Subscript o i tpos] e pos.line X.env = pure false := by rfl) (hw : swappedStores [.Subscript o i tpos] e X.env = pure none := by rfl) :
    SS X W (.Assign [.Subscript o i tpos] e pos) (sPut dd di d) := PS.imp (ps_asg h hg hs hw h1) fun Dn σ H h => by
  obtain ⟨ι, env, S, s, er, p⟩ := h
  refine ⟨ι, env, S, s, er, (PostS.lift (Rel := Rp X.K) p er).mono ?_⟩
  rintro x H1 ⟨ι1, dx, S1, e1, s1, r1, p1⟩
  have er1 := er.ext e1
  refine ⟨ι1, env, S1, s1, er1, (PostS.lift (Rel := Rp X.K) p1 er1).mono ?_⟩
  rintro l H2 ⟨ι2, dl, S2, e2, s2, r2, p2⟩
  have er2 := er1.ext e2
  refine ⟨ι2, env, S2, s2, er2, (PostS.lift (Rel := Rp X.K) p2 er2).mono ?_⟩
  rintro j H3 ⟨ι3, dj, S3, e3, s3, r3, p3⟩
  have er3 := er2.ext e3
  split at p3
  · rename_i n k
    cases r3
    obtain ⟨a, rfl, ea⟩ := (r2.ext e3).ref_inv
    split at p3
    · rename_i xs e4
      split at p3
      · rename_i m e5
        obtain ⟨vs, h1, h2⟩ := s3.list ea e4
        refine ⟨a, vs, k, m, rfl, rfl, h1, by rw [h2.length]; exact e5, ?_⟩
        have hp : Ext ι3 H3 ι3 (upd H3 a (.lst (vs.set m x))) := Ext.put ea
        exact p3 ι3 _ σ hp (s3.put ea (h2.set m ((r1.ext e2).ext e3))) (er3.ext hp)
      · exact p3.elim
    · exact p3.elim
  · exact p3.elim
end

/-! ### what is walked -/
structure ItOk (K : PySem.W.Frag) (J : It) (xs : List D) (g : Sto → Prop) (ι : Em) (H : Hp) : Prop where
  go : ∀ (ι2 : Em) (H2 : Hp) (S2 : Sto) (i : Nat) (x : D), Ext ι H ι2 H2 → Sr K H2 ι2 S2 → g S2 → xs[i]? = some x → J.go i H2 ∧ ∀ v H3, J.yld i H2 v H3 → Ext ι2 H2 ι2 H3 ∧ Sr K H3 ι2 S2 ∧ Rp K H3 ι2 v x
  stop : ∀ (ι2 : Em) (H2 : Hp) (S2 : Sto), Ext ι H ι2 H2 → Sr K H2 ι2 S2 → g S2 → J.stop xs.length H2
abbrev DenI := Env → Sto → R (List D × (Sto → Prop))
def rdI (K : PySem.W.Frag) (mg : Str → Option Value) (W : WX) (d : DenI) : TI := fun σ H Q => ∃ ι env S, Sr K H ι S ∧ Er K H ι σ env ∧ Post K mg (fun H1 ι1 J a => ItOk K J a.1 a.2 ι1 H1) W σ ι H (d env S) Q
section
variable {X : Cx} {W : WX} {tg l e : Expr} {tl d : Den} {pos p : Pos}
abbrev II (X : Cx) (W : WX) (tg e : Expr) (d : DenI) : Prop := PI X tg e (rdI X.K X.mg W d)
theorem PI.imp {t t' : TI} (h : PI X tg e t) (f : ∀ σ H R, t' σ H R → t σ H R) : PI X tg e t' := ⟨fun pins s σ H R I q => h.run pins s σ H R I (f σ H R q)⟩
/-- what is read of a list or tuple while it stands -/
def still (x : D) (xs : List D) (S : Sto) : Prop := match x with
  | .ref n => S[n]? = some (.lst xs)
  | _ => True
theorem still_tup {ys xs : List D} {S : Sto} : still (.tup ys) xs S = True := rfl
theorem still_lst {ys xs : List D} {S : Sto} : still (.lst ys) xs S = True := rfl
theorem still_frz {ys xs : List D} {S : Sto} : still (.frz ys) xs S = True := rfl
theorem still_ref {n : Nat} {xs : List D} {S : Sto} : still (.ref n) xs S = (S[n]? = some (.lst xs)) := rfl
def asSeq (x : D) (S : Sto) : R (List D × (Sto → Prop)) := match seqOf S x with
  | some xs => .ok (xs, still x xs) S
  | none => .bad
def iSeq (d : Den) : DenI := fun env S => (d env S).bind asSeq
/-- the walked list or tuple of a value, later on -/
theorem still_inv {K : PySem.W.Frag} {ι : Em} {H : Hp} {S S1 : Sto} {v : V} {x : D} {xs : List D} (s : Sr K H ι S) (r : Rp K H ι v x) (e0 : seqOf S1 x = some xs) (g : still x xs S) : ∃ a vs, v = .ref a ∧ (SqL K H a vs ∨ SqT K H a vs) ∧ Rps K H ι vs xs := by
  refine seq_inv s r ?_
  cases x with
  | ref n => simp only [still] at g; simp only [seqOf, g]
  | _ => exact e0
/-- lists stay lists, tuples tuples -/
def isT : D → Bool
  | .tup _ => true
  | _ => false
theorem still_L {K : PySem.W.Frag} {ι : Em} {H : Hp} {S S1 : Sto} {v : V} {x : D} {xs : List D} (s : Sr K H ι S) (r : Rp K H ι v x) (e0 : seqOf S1 x = some xs) (g : still x xs S) (h : isT x = false) : ∃ a vs, v = .ref a ∧ SqL K H a vs ∧ Rps K H ι vs xs := by
  refine lst_inv s r ?_
  cases x with
  | ref n => simp only [still] at g; simp only [lstOf, g]
  | tup ys => cases h
  | _ => exact e0
theorem walk_ok {K : PySem.W.Frag} {J : It} {n : Nat} {G : Hp → Prop} {Y : Nat → Hp → V → Hp → Prop} {xs : List D} {g : Sto → Prop} {ι : Em} {H : Hp} (w : Walk J n G Y) (hn : n = xs.length)
    (hG : ∀ ι2 H2 S2, Ext ι H ι2 H2 → Sr K H2 ι2 S2 → g S2 → G H2)
    (hY : ∀ ι2 H2 S2 i x v H3, Ext ι H ι2 H2 → Sr K H2 ι2 S2 → g S2 → xs[i]? = some x → Y i H2 v H3 → Ext ι2 H2 ι2 H3 ∧ Sr K H3 ι2 S2 ∧ Rp K H3 ι2 v x) : ItOk K J xs g ι H := by
  subst hn
  refine ⟨fun ι2 H2 S2 i x e s hg hx => ?_, fun ι2 H2 S2 e s hg => w.stops H2 (hG ι2 H2 S2 e s hg)⟩
  have hi : i < xs.length := (List.getElem?_eq_some_iff.mp hx).1
  have q := hG ι2 H2 S2 e s hg
  exact ⟨w.goes i H2 hi q, fun v H3 y => hY ι2 H2 S2 i x v H3 e s hg hx (w.yields i H2 v H3 hi q y)⟩
/-- the list or tuple that e gives -/
def iEach (K : PySem.W.Frag) (tl : TE) : TI := fun σ H R => tl σ H fun x H1 => ∃ a, x = .ref a ∧ (((∃ xs, SqL K H1 a xs) ∧ R (Itl K a) H1) ∨ ((∃ xs, SqT K H1 a xs) ∧ R (Itt K a) H1))
theorem pi_each {tl : TE} (hl : PE X l tl) : PI X tg l (iEach X.K tl) := by
  refine ⟨fun pins s σ H R I h => thn (hl.run pins s σ H _ I h) fun v s1 ⟨x, H1, I1, r1, q1⟩ => ?_⟩
  obtain ⟨a, rfl, q⟩ := q1
  cases r1
  have fresh : ∀ b ∈ [s1.heap.objs.size], FpOk X pins H1 b := fun b hb => by
    cases List.mem_singleton.mp hb
    exact I1.fpOk (Nat.le_refl _) (I1.hok.fresh (Nat.le_refl _))
  rcases q with ⟨⟨xs, hq⟩, q⟩ | ⟨⟨xs, hq⟩, q⟩
  · obtain ⟨its, rv, p, hz⟩ := I1.list hq
    exact wpAny_pyIter_list p.isList
      ⟨s1.heap.objs.size, [s1.heap.objs.size], _, _, H1, rfl, I1.kept (t' := s1.toks) (fun b o e => Heap.get?_push_of_some _ e), turn_list a _, ⟨_, Heap.get?_push_size _ rfl, rfl, rfl⟩, fresh, q⟩
  · obtain ⟨its, rv, p, hz⟩ := I1.tuple hq
    exact wpAny_pyIter_tuple (show s1.heap.IsTuple a its.toArray from p)
      ⟨s1.heap.objs.size, [s1.heap.objs.size], _, _, H1, rfl, I1.kept (t' := s1.toks) (fun b o e => Heap.get?_push_of_some _ e), turn_tuple a _, ⟨_, Heap.get?_push_size _ rfl, rfl, rfl⟩, fresh, q⟩
theorem i_seq (hl : EE X W l tl) : II X W tg l (iSeq tl) := PI.imp (pi_each hl) fun σ H R h => by
  obtain ⟨ι, env, S, s, er, p⟩ := h
  refine ⟨ι, env, S, s, er, (Post.bind (Rel' := Rp X.K) p).mono ?_⟩
  rintro x H1 ⟨ι1, dx, S1, e1, s1, r1, p1⟩
  unfold asSeq at p1
  split at p1
  · rename_i xs e0
    cases ht : isT dx with
    | false =>
      have g0 : still dx xs S1 := by
        cases dx with
        | ref n =>
          simp only [seqOf] at e0
          split at e0
          · rename_i ys e5; cases e0; exact e5
          · cases e0
        | _ => trivial
      obtain ⟨a, vs, rfl, hs, rs⟩ := still_L s1 r1 e0 g0 ht
      have hw : ∀ ι2 H2 S2, Ext ι1 H1 ι2 H2 → Sr X.K H2 ι2 S2 → still dx xs S2 → ∃ ws, SqL X.K H2 a ws ∧ Rps X.K H2 ι2 ws xs := fun ι2 H2 S2 e2 s2 g2 => by
        obtain ⟨b, ws, e3, h3, r3⟩ := still_L s2 (r1.ext e2) e0 g2 ht
        cases e3; exact ⟨ws, h3, r3⟩
      refine ⟨a, rfl, .inl ⟨⟨vs, hs⟩, p1 ι1 H1 _ Ext.refl s1 ⟨fun ι2 H2 S2 i y e2 s2 g2 hy => ?_, fun ι2 H2 S2 e2 s2 g2 => ?_⟩⟩⟩
      · obtain ⟨ws, h3, r3⟩ := hw ι2 H2 S2 e2 s2 g2
        obtain ⟨v, hv, rv⟩ := r3.get hy
        refine ⟨⟨ws, v, h3, hv⟩, fun u H3 yy => ?_⟩
        obtain ⟨rfl, hu⟩ := yy
        have := hu ws h3
        rw [hv] at this; cases this
        exact ⟨Ext.refl, s2, rv⟩
      · obtain ⟨ws, h3, r3⟩ := hw ι2 H2 S2 e2 s2 g2
        exact ⟨ws, h3, by rw [r3.length]; exact Nat.le_refl _⟩
    | true =>
      cases dx with
      | tup ys =>
        cases e0
        obtain ⟨a, vs, rfl, hs, rs⟩ := r1.tup_inv
        have hw : ∀ ι2 H2 S2, Ext ι1 H1 ι2 H2 → Sr X.K H2 ι2 S2 → ∃ ws, SqT X.K H2 a ws ∧ Rps X.K H2 ι2 ws xs := fun ι2 H2 S2 e2 s2 => by
          obtain ⟨b, ws, e3, h3, r3⟩ := (r1.ext e2).tup_inv
          cases e3; exact ⟨ws, h3, r3⟩
        refine ⟨a, rfl, .inr ⟨⟨vs, hs⟩, p1 ι1 H1 _ Ext.refl s1 ⟨fun ι2 H2 S2 i y e2 s2 g2 hy => ?_, fun ι2 H2 S2 e2 s2 g2 => ?_⟩⟩⟩
        · obtain ⟨ws, h3, r3⟩ := hw ι2 H2 S2 e2 s2
          obtain ⟨v, hv, rv⟩ := r3.get hy
          refine ⟨⟨ws, v, h3, hv⟩, fun u H3 yy => ?_⟩
          obtain ⟨rfl, hu⟩ := yy
          have := hu ws h3
          rw [hv] at this; cases this
          exact ⟨Ext.refl, s2, rv⟩
        · obtain ⟨ws, h3, r3⟩ := hw ι2 H2 S2 e2 s2
          exact ⟨ws, h3, by rw [r3.length]; exact Nat.le_refl _⟩
      | _ => cases ht
  · exact p1.elim
/-- range(n), range(m, n) -/
def rngD (lo : Int) (n : Nat) : List D := (List.range n).map fun (i : Nat) => .int (lo + (i : Int))
def big : Int := 4611686018427387904
def Rok (i : Int) : Prop := -big ≤ i ∧ i < big
noncomputable instance (i : Int) : Decidable (Rok i) := Classical.propDecidable _
def fRng1 (xs : List D) (S : Sto) : R (List D × (Sto → Prop)) := match xs with
  | [.int j] => if Rok j then .ok (rngD 0 j.toNat, fun _ => True) S else .bad
  | _ => .bad
def fRng2 (xs : List D) (S : Sto) : R (List D × (Sto → Prop)) := match xs with
  | [.int i, .int j] => if Rok i ∧ Rok j then .ok (rngD i (j - i).toNat, fun _ => True) S else .bad
  | _ => .bad
def iRng1 (d : DenA) : DenI := fun env S => (d env S).bind fRng1
def iRng2 (d : DenA) : DenI := fun env S => (d env S).bind fRng2
theorem rng_ok {K : PySem.W.Frag} {lo : Int} {n : Nat} {ι : Em} {H : Hp} : ItOk K (Itr lo n) (rngD lo n) (fun _ => True) ι H := by
  refine ⟨fun ι2 H2 S2 i x e2 s2 _ hx => ?_, fun ι2 H2 S2 _ _ _ => by show n ≤ _; simp [rngD]⟩
  have hi : i < n := by
    have := (List.getElem?_eq_some_iff.mp hx).1
    simpa [rngD] using this
  refine ⟨hi, fun v H3 y => ?_⟩
  obtain ⟨rfl, rfl⟩ := y
  refine ⟨Ext.refl, s2, ?_⟩
  unfold rngD at hx
  rw [List.getElem?_map, List.getElem?_range hi] at hx
  cases hx
  exact .int _
theorem big_eq : big = 2 ^ 62 := by decide
theorem rd_rng1 {K : PySem.W.Frag} {mg : Str → Option Value} {da : DenA} {σ : L2.St} {H : Hp} {R : It → Hp → Prop} (h : rdI K mg W (iRng1 da) σ H R) : L2.iRng1 (rdA K mg W da) σ H R := by
  obtain ⟨ι, env, S, s, er, q⟩ := h
  refine ⟨ι, env, S, s, er, (Post.bind (Rel' := Rps K) q).mono ?_⟩
  rintro x H1 ⟨ι1, dx, S1, e1, s1, r1, p1⟩
  unfold fRng1 at p1
  split at p1
  · rename_i j
    obtain ⟨v, rfl, r⟩ := rps1 r1
    cases r
    split at p1
    · rename_i hj
      unfold Rok at hj
      rw [big_eq] at hj
      exact ⟨j, rfl, hj.1, hj.2, p1 ι1 H1 _ Ext.refl s1 rng_ok⟩
    · exact p1.elim
  · exact p1.elim
theorem i_rng1 {a : Expr} {da : DenA} (hg : Gl X "range") (hm : X.mg "range" = none) (ha : AA X W [a] da) (hs : starEach [a] X.env = [(false, eval a X.env)] := by rfl) : II X W tg (.Call (.Name "range" p) [a] [] pos) (iRng1 da) := PI.imp (pi_range1 hg hm ha hs) fun _ _ _ h => rd_rng1 h
theorem i_rng2 {a b : Expr} {da : DenA} (hg : Gl X "range") (hm : X.mg "range" = none) (ha : AA X W [a, b] da) (hs : starEach [a, b] X.env = [(false, eval a X.env), (false, eval b X.env)] := by rfl) (hs2 : starEach [b] X.env = [(false, eval b X.env)] := by rfl) :
    II X W tg (.Call (.Name "range" p) [a, b] [] pos) (iRng2 da) := PI.imp (pi_range2 hg hm ha hs hs2) fun σ H R h => by
  obtain ⟨ι, env, S, s, er, q⟩ := h
  refine ⟨ι, env, S, s, er, (Post.bind (Rel' := Rps X.K) q).mono ?_⟩
  rintro x H1 ⟨ι1, dx, S1, e1, s1, r1, p1⟩
  unfold fRng2 at p1
  split at p1
  · rename_i i j
    obtain ⟨v, w, rfl, r, r2⟩ := rps2 r1
    cases r; cases r2
    split at p1
    · rename_i hj
      unfold Rok at hj
      rw [big_eq] at hj
      exact ⟨i, j, rfl, ⟨hj.1.1, hj.1.2, hj.2.1, hj.2.2⟩, p1 ι1 H1 _ Ext.refl s1 rng_ok⟩
    · exact p1.elim
  · exact p1.elim

/-! ### for, while -/
open Classical in
noncomputable def forGo (g : Sto → Prop) (t : Tg) (body : SDen) : List D → Env → Sto → F
  | [], env, S => if g S then .nx env S else .bad
  | x :: xs, env, S => if g S then match t.run x env with
    | some env' => match body env' S with
      | .nx e S' => forGo g t body xs e S'
      | .ct e S' => forGo g t body xs e S'
      | .bk e S' => .nx e S'
      | f => f
    | none => .bad
    else .bad
noncomputable def sFor (src : DenI) (t : Tg) (body : SDen) : SDen := fun env S => (src env S).lift env fun a S1 => forGo a.2 t body a.1 env S1
def whileGo (c : DenT) (body : SDen) : Nat → Env → Sto → F
  | 0, _, _ => .bad
  | n + 1, env, S => (c env S).lift env fun b S1 => if b then (match body env S1 with
      | .nx e S' => whileGo c body n e S'
      | .ct e S' => whileGo c body n e S'
      | .bk e S' => .nx e S'
      | f => f) else .nx env S1
def sWhile (n : Nat) (c : DenT) (body : SDen) : SDen := whileGo c body n
theorem Post.le {K : PySem.W.Frag} {mg : Str → Option Value} {α β : Type} {Rel : Hp → Em → β → α → Prop} {σ : L2.St} {ι : Em} {H : Hp} {r : R α} {Q : β → Hp → Prop} (h : Post K mg Rel W σ ι H r Q) {S : Sto} {ι0 : Em} {H0 : Hp} (e : Ext ι0 H0 ι H) (s : Sr K H ι S) :
    Post K mg Rel W σ ι H r (fun v H' => Q v H') := h
theorem rd_for {K : PySem.W.Frag} {mg : Str → Option Value} {src : DenI} {t : Tg} {db : SDen} {Dn : Ends} {σ : L2.St} {H : Hp} (h : rdS K mg W (sFor src t db) Dn σ H) : tFor (rdI K mg W src) (rdG K t) (rdS K mg W db) Dn σ H := by
  obtain ⟨ι, env, S, s, er, p⟩ := h
  refine ⟨ι, env, S, s, er, (PostS.lift (Rel := fun H1 ι1 J a => ItOk K J a.1 a.2 ι1 H1) p er).mono ?_⟩
  rintro J H1 ⟨ι1, ⟨xs, g⟩, S1, e1, s1, r1, p1⟩
  have er1 := er.ext e1
  clear p er e1 s
  simp only at r1 p1
  refine ⟨fun i m σ H => m = xs.length - i ∧ i ≤ xs.length ∧ ∃ ι2 env S2, Ext ι1 H1 ι2 H ∧ Sr K H ι2 S2 ∧ Er K H ι2 σ env ∧ PostS K mg W ι2 H (forGo g t db (xs.drop i) env S2) Dn,
    ⟨xs.length, rfl, Nat.zero_le _, ι1, env, S1, Ext.refl, s1, er1, by simpa using p1⟩, ?_⟩
  rintro i m σ H2 ⟨rfl, hi, ι2, env2, S2, e2, s2, er2, p2⟩
  by_cases hlt : i < xs.length
  · rw [List.drop_eq_getElem_cons hlt] at p2
    simp only [forGo] at p2
    split at p2
    · rename_i hg2
      obtain ⟨go, gy⟩ := r1.go ι2 H2 S2 i _ e2 s2 hg2 (List.getElem?_eq_getElem hlt)
      refine .inr ⟨go, fun σ' H' => ∃ ι3 env3 S3, Ext ι1 H1 ι3 H' ∧ Sr K H' ι3 S3 ∧ Er K H' ι3 σ' env3 ∧ PostS K mg W ι3 H' (forGo g t db (xs.drop (i + 1)) env3 S3) Dn, ?_, ?_⟩
      · rintro σ' H' ⟨ι3, env3, S3, q⟩
        exact ⟨xs.length - (i + 1), by omega, rfl, hlt, ι3, env3, S3, q⟩
      · intro v H3 y
        obtain ⟨e3, s3, r3⟩ := gy v H3 y
        split at p2
        · rename_i env' e5
          refine ⟨ι2, env2, _, env', er2.ext e3, r3, e5, fun ws _ er' => ?_⟩
          refine ⟨ι2, env', S2, s3, er', ?_⟩
          split at p2
          · rename_i e6 S6 eb
            rw [eb]
            exact fun ι4 H4 σ4 e4 s4 er4 => ⟨ι4, _, _, (e2.tr s2 e3).tr s3 e4, s4, er4, p2.ext (e3.tr s3 e4) s4⟩
          · rename_i e6 S6 eb
            rw [eb]
            exact fun ι4 H4 σ4 e4 s4 er4 => ⟨ι4, _, _, (e2.tr s2 e3).tr s3 e4, s4, er4, p2.ext (e3.tr s3 e4) s4⟩
          · rename_i e6 S6 eb
            rw [eb]
            exact fun ι4 H4 σ4 e4 s4 er4 => p2 ι4 H4 σ4 (e3.tr s3 e4) s4 er4
          · rename_i f h1 h2 h3
            have p3 := p2.ext e3 s3
            cases q : db env' S2 with
            | nx a b => exact absurd q (h1 a b)
            | ct a b => exact absurd q (h2 a b)
            | bk a b => exact absurd q (h3 a b)
            | rt a b => rw [q] at p3; exact p3
            | ex a b c d => rw [q] at p3; exact p3
            | bad => rw [q] at p3; exact p3
        · exact p2.elim
    · exact p2.elim
  · have hi' : i = xs.length := by omega
    subst hi'
    rw [List.drop_length] at p2
    simp only [forGo] at p2
    split at p2
    · rename_i hg2
      exact .inl ⟨r1.stop ι2 H2 S2 e2 s2 hg2, p2.nx s2 er2⟩
    · exact p2.elim
theorem s_for {iter : Expr} {body : List Stmt} {src : DenI} {t : Tg} {db : SDen} (hc : X.calm = true) (hi : II X W tg iter src) (hg : GG X tg t) (hb : SSs X W body db) (hp : PassesOwn (model X.prog X.w) X.A X.env X.xe) (hs : ∀ x, foldedSetIterable iter X.env x = pure x := by intro _; rfl) :
    SS X W (.For tg iter body [] pos) (sFor src t db) := PS.imp (ps_for hp hc hi hg hb hs) fun _ _ _ h => rd_for h
theorem s_while {c : Expr} {body : List Stmt} {tc : DenT} {db : SDen} (n : Nat) (hc : TT' X W c tc) (hb : SSs X W body db) (hp : PassesOwn (model X.prog X.w) X.A X.env X.xe) : SS X W (.While c body [] pos) (sWhile n tc db) := PS.imp (ps_while hp hc hb) fun Dn σ H h => by
  obtain ⟨ι, env, S, s, er, p⟩ := h
  refine ⟨fun m σ H => ∃ ι env S, Sr X.K H ι S ∧ Er X.K H ι σ env ∧ PostS X.K X.mg W ι H (whileGo tc db m env S) Dn, ⟨n, ι, env, S, s, er, p⟩, ?_⟩
  rintro m σ1 H1 ⟨ι1, env1, S1, s1, er1, p1⟩
  cases m with
  | zero => exact p1.elim
  | succ m =>
    refine ⟨ι1, env1, S1, s1, er1, (PostS.lift (Rel := fun _ _ b c => b = c) p1 er1).mono ?_⟩
    rintro b H2 ⟨ι2, _, S2, e2, s2, rfl, p2⟩
    cases b with
    | false => rw [if_neg Bool.false_ne_true]; exact p2.nx s2 (er1.ext e2)
    | true =>
      rw [if_pos rfl]
      simp only [if_true] at p2
      refine ⟨fun σ' H' => ∃ ι env S, Sr X.K H' ι S ∧ Er X.K H' ι σ' env ∧ PostS X.K X.mg W ι H' (whileGo tc db m env S) Dn, fun σ' H' q => ⟨m, Nat.lt_succ_self _, q⟩, ι2, env1, S2, s2, er1.ext e2, ?_⟩
      split at p2
      · rename_i e6 S6 eb
        rw [eb]
        exact fun ι4 H4 σ4 e4 s4 er4 => ⟨ι4, _, _, s4, er4, p2.ext e4 s4⟩
      · rename_i e6 S6 eb
        rw [eb]
        exact fun ι4 H4 σ4 e4 s4 er4 => ⟨ι4, _, _, s4, er4, p2.ext e4 s4⟩
      · rename_i e6 S6 eb
        rw [eb]
        exact fun ι4 H4 σ4 e4 s4 er4 => p2 ι4 H4 σ4 e4 s4 er4
      · rename_i f h1 h2 h3
        cases q : db env1 S2 with
        | nx a b => exact absurd q (h1 a b)
        | ct a b => exact absurd q (h2 a b)
        | bk a b => exact absurd q (h3 a b)
        | rt a b => rw [q] at p2; exact p2
        | ex a b c d => rw [q] at p2; exact p2
        | bad => rw [q] at p2; exact p2
end
end
end Z
end

section
set_option Elab.async false
set_option linter.all false
set_option maxRecDepth 100000
set_option maxHeartbeats 2000000
/-! an error of one's own made by its __init__, with what is known of its context (for suites that call defs) -/
namespace Z
open PySem PySem.Spec PyProof.Rows L2
section
variable {X : Cx} {e : Expr} {es : List Expr} {ta : TA} {pos p : Pos}
/-- the two objects that a new error of the class C lays down behind the heap g, its arguments us -/
def twoH (g : Heap) (C : Addr) (us : List Value) : Heap := (g.push (PySem.W.kdv_tup us)).push (PySem.HandSPX.excO C g.objs.size)
theorem twoH_keep {g : Heap} {C : Addr} {us : List Value} : ∀ b o, g.get? b = some o → (twoH g C us).get? b = some o := fun _ _ q => Heap.get?_push_of_some _ (Heap.get?_push_of_some _ q)
theorem twoH_get {g : Heap} {C : Addr} {us : List Value} : (twoH g C us).get? (g.objs.size + 1) = some (PySem.HandSPX.excO C g.objs.size) := by unfold twoH; heap_get
theorem pmkN_oex {G : CXT} {x : Str} {C fI : Addr} {k : Nat} {fd : FuncData} {ps : List Str} {sp : Sp} (T : OexC X.K C) (iC : PySem.W.findIn X.K (.ref C) "__init__" = some (some (.ref fI))) (tI : PySem.W.typeIn X.K (.ref fI) = some (.type "function"))
    (F1 : FnOk X.prog X.w X.K X.mg X.base G k fI fd ps sp) (hr : Room (k + 1) X.A) (hb : Binds X.K fd ps []) (hx : Passes G X (fun _ _ _ => False)) (hg : Gl X x) (hm : X.mg x = some (.ref C)) (ha : PA X (e :: es) ta)
    (hdb : (x == ("__debug__" : Str)) = false := by decide) (he : starEach (e :: es) X.env = (false, eval e X.env) :: starEach es X.env := by rfl) (hpl : (backTo pos (starEach es X.env)).any (·.1) = false := by rfl) :
    L2N.PMk X (.Call (.Name x p) (e :: es) [] pos) (tMkO C sp [] ta) := fun pins s σ H Q I h => by
  obtain ⟨_, _, _, _, bm, _, _, _, _, _, _, _, _, _, _, cC, cB⟩ := T.cls
  have run : ∀ (us : List Value) (s1 : Shared) (vs : List V) (H1 : Hp), Inv X pins σ H1 s1 → Vals vs us → (vs.length ≤ 1000 ∧ ∀ q, H1 q = none → sp (V.ref q :: (vs ++ [])) (upd H1 q (exo q C none)) (fun v H2 => v = .non ∧ ∃ d fs, H2 q = some (exo q C (some d)) ∧ H2 d = some (exd d fs) ∧ H1 d = none ∧ Q (.ref C) (some d) (upd (del H2 q) d (.xd fs))) (fun _ _ _ => False)) →
      wpAny (model X.prog X.w) X.A (call (.ref C) us) (L2N.MkP X pins σ Q) X.xe s1 := by
    rintro us s1 vs H1 I1 rv ⟨lv, g⟩
    obtain ⟨hp, gs, dr, tk, os⟩ := s1
    have old : hp.objs.size ≤ hp.objs.size + 1 := Nat.le_succ _
    have new := I1.hok.fresh old
    have g2 := g _ new
    have J : Inv X pins σ (upd H1 (hp.objs.size + 1) (exo (hp.objs.size + 1) C none)) ⟨twoH hp C us, gs, dr, tk, os⟩ := I1.laid (t' := tk) twoH_keep old (exo_ok twoH_get)
    rw [List.append_nil] at g2
    have rv2 : Vals (V.ref (hp.objs.size + 1) :: vs) (Value.ref (hp.objs.size + 1) :: us) := .cons rfl rv
    have ln : (Value.ref (hp.objs.size + 1) :: us).length = ps.length := by rw [← rv2.length, F1.len _ _ _ _ g2]
    have few : us.length ≤ sizeLine := by rw [← Paired.length rv]; exact Nat.le_trans lv (by decide)
    have bd := hb _ (Value.ref (hp.objs.size + 1) :: us) J.kIn (by rw [List.append_nil]; exact ln)
    rw [List.append_nil] at bd
    have call := F1.run _ X.stack _ _ ⟨Value.ref (hp.objs.size + 1) :: us, []⟩ (Value.ref (hp.objs.size + 1) :: us) _ _ (fun _ _ _ => False) (hr.make C us []) (J.env0.make C us []) bd rv2 g2
    refine wpAny_call (PySem.HandSPX.call_own F.excBase_ValueError (fun Y => PySem.HandSPX.refsVE_contains Y bm cB) (I1.kIn _ _ cC) (PySem.W.looks_findIn I1.kIn iC) (fun self => PySem.W.bind_fn I1.kIn self tI) few (codeAny_mono call fun r s' q => ?_))
    match r, q with
    | .error er, q => exact hx pins σ _ _ er s' J q
    | .ok .next, q => exact False.elim q
    | .ok .brk, q => exact False.elim q
    | .ok .cont, q => exact False.elim q
    | .ok (.ret u), ⟨v, H2, o2, br, un, ok2, rr, ev, d, fs, ea, ed, nd, q2⟩ =>
      subst ev
      obtain ⟨h2, g2', d2, t2, os'⟩ := s'
      obtain ⟨t0, G0, J0, k0, f0, n0, na⟩ := mk_end0 (d2 := d2) (t2 := t2) I1 old twoH_keep un ok2 o2 br ea ed nd
      exact ⟨rr, hp.objs.size + 1, _, _, ⟨G0, g2', d2, t2, os'⟩, _, .ref C, some d, rfl, J0, k0, f0, n0, ⟨rfl, rfl, fun _ z => by cases z; rfl⟩, rfl, rfl, na, rfl, br, raises_own T.exC T.tyC, q2⟩
  refine wpAny_Call_Name_kw (ld_glob I hg hm ?_ hdb)
  exact PySem.W.callWith_K (h₀ := X.base) I.ok.mod.kin T.kC (thn (ha.run pos pins s σ H _ I h) fun us s1 ⟨vs, H1, I1, r1, q1⟩ => ⟨I1.kIn, run us s1 vs H1 I1 r1 q1⟩) he hpl
end
end Z
end

section
set_option Elab.async false
set_option linter.all false
set_option maxRecDepth 100000
set_option maxHeartbeats 1000000
namespace Z
noncomputable section
open PySem PySem.Spec PyProof.Rows L2

theorem passN {X : Cx} : Passes (L2N.CX X.prog X.w) X (fun _ _ _ => False) := fun _ _ _ _ _ _ _ h => by
  obtain ⟨_, _, _, _, _, _, _, _, _, _, _, _, z⟩ := h
  exact z.elim
/-! ### defs -/
abbrev FD := List D → Sto → R D
/-- a def's promise, by what it computes -/
def spOf (K : PySem.W.Frag) (mg : Str → Option Value) (n : Nat) (f : FD) : Sp := fun vs H Q E => vs.length = n ∧ ∃ ι ds S, Sr K H ι S ∧ Rps K H ι vs ds ∧ Post K mg (Rp K) (fun c d _ H => E c d H) [] ι H (f ds S) Q
theorem Post.wish {α β : Type} {K : PySem.W.Frag} {mg : Str → Option Value} {Rel : Hp → Em → β → α → Prop} {W : WX} {σ σ' : L2.St} {ι : Em} {H : Hp} {r : R α} {Q : β → Hp → Prop} {E : XK} (h : Post K mg Rel W σ ι H r Q) (hE : ∀ c d H, W c d σ H → E c d H) : Post K mg Rel (fun c d _ H => E c d H) σ' ι H r Q := by
  cases r with
  | ok a S' => exact h
  | ex c fs S' => exact fun ι2 H2 dd C gs e2 s2 hc hd hn hl => hE _ _ _ (h ι2 H2 dd C gs e2 s2 hc hd hn hl)
  | bad => exact h
/-- what a body computes, called -/
def fnF (n : Nat) (body : SDen) : FD := fun ds S => match body (ds.map some ++ List.replicate (n - ds.length) none) S with
  | .nx _ S' => .ok .non S'
  | .rt d S' => .ok d S'
  | .ex c fs _ S' => .ex c fs S'
  | _ => .bad
theorem er_start {K : PySem.W.Frag} {H : Hp} {ι : Em} {vs : List V} {ds : List D} {N : List Str} (r : Rps K H ι vs ds) (hN : vs.length ≤ N.length) : Er K H ι (L2.start N vs) (ds.map some ++ List.replicate (N.length - ds.length) none) := by
  refine ⟨by simp [L2.start, r.length], fun i d e => ?_⟩
  by_cases hi : i < ds.length
  · rw [List.getElem?_append_left (by simpa using hi)] at e
    rw [List.getElem?_map] at e
    cases q : ds[i]? with
    | none => rw [q] at e; cases e
    | some d' =>
      rw [q] at e; cases e
      obtain ⟨v, hv, rv⟩ := r.get q
      refine ⟨v, ?_, rv⟩
      unfold L2.start
      rw [List.getElem?_append_left (by rw [List.length_map, r.length]; exact hi), List.getElem?_map, hv]
      rfl
  · rw [List.getElem?_append_right (by simpa using hi)] at e
    have := List.getElem?_replicate (a := (none : Option D)) (n := N.length - ds.length) (i := i - (ds.map some).length)
    rw [this] at e
    split at e <;> cases e
section
variable {P : Program} {w : World} {K : PySem.W.Frag} {mg : Str → Option Value} {base : Heap}
abbrev wE (E : XK) : WX := fun c d _ H => E c d H
abbrev FnZ (P : Program) (w : World) (K : PySem.W.Frag) (mg : Str → Option Value) (base : Heap) (k : Nat) (f : Addr) (fd : FuncData) (ps : List Str) (F : FD) : Prop := FnOk P w K mg base (L2N.CX P w) k f fd ps (spOf K mg ps.length F)
theorem fun_okN {G : CXT} {x qual : Str} {st : Stmt} {f : Addr} {fd : FuncData} {N ps : List Str} {k : Nat} {sp : Sp} (F : Fun K x qual st f fd) (S : FnScope N ps (defScope st)) (len : ∀ vs H Q E, sp vs H Q E → vs.length = ps.length)
    (hb : ∀ (cdv : Value) (A : Around) (outer : List PySem.Env) (s : Shared) (H : Hp) (vs : List V) (Q : VK) (E : XK), Room k (A.deeper (envOfC qual (defScope st) s.heap.objs.size f cdv)) → sp vs H Q E →
      ∃ t, PSs (cxOf G P w K mg base N qual (defScope st) f cdv A outer s H E) (defBody st) t ∧ t { nx := fun _ H' => Q .non H', rt := Q } (L2.start N vs) H) : FnOk P w K mg base G (k + 1) f fd ps sp := by
  obtain ⟨oc, od, kV, doc, pm, an, cdv, ct, osl, rfl, lk, hcd⟩ := F.ex
  exact fn_of lk hcd S len (hb cdv)
/-- THE RULE for a def -/
theorem fn_ok {x qual : Str} {st : Stmt} {f : Addr} {fd : FuncData} {N ps : List Str} {k : Nat} {body : SDen} (F : Fun K x qual st f fd) (S : FnScope N ps (defScope st)) (hN : ps.length ≤ N.length)
    (hb : ∀ (cdv : Value) (A : Around) (outer : List PySem.Env) (s : Shared) (H : Hp) (E : XK), Room k (A.deeper (envOfC qual (defScope st) s.heap.objs.size f cdv)) →
      L2N.Takes (cxOf (L2N.CX P w) P w K mg base N qual (defScope st) f cdv A outer s H E) (wE E) → SSs (cxOf (L2N.CX P w) P w K mg base N qual (defScope st) f cdv A outer s H E) (wE E) (defBody st) body) :
    FnZ P w K mg base (k + 1) f fd ps (fnF N.length body) := by
  refine fun_okN F S (fun vs H Q E h => h.1) fun cdv A outer s H vs Q E hr h => ⟨_, hb cdv A outer s H E hr (L2N.takes_of rfl rfl rfl rfl), ?_⟩
  obtain ⟨hl, ι, ds, S0, sr, r, p⟩ := h
  refine ⟨ι, _, S0, sr, er_start r (by rw [hl]; exact hN), ?_⟩
  unfold fnF at p
  show PostS K mg (wE E) ι H (body (ds.map some ++ List.replicate (N.length - ds.length) none) S0) _
  cases q : body (ds.map some ++ List.replicate (N.length - ds.length) none) S0 with
  | nx e S' => rw [q] at p; exact fun ι' H' σ' e1 s1 _ => p ι' H' .non e1 s1 .non
  | rt d S' => rw [q] at p; exact p
  | ex c fs e S' => rw [q] at p; exact fun ι' H' σ' dd C gs e1 s1 _ => p ι' H' dd C gs e1 s1
  | bk e S' => rw [q] at p; exact p.elim
  | ct e S' => rw [q] at p; exact p.elim
  | bad => rw [q] at p; exact p.elim
end
/-- f(..): the written arguments, then the defaults -/
def dCall (F : FD) (dds : List D) (a : DenA) : Den := fun env S => (a env S).bind fun ds S1 => F (ds ++ dds) S1
/-- constants for defaults -/
inductive Flats : List V → List D → Prop
  | nil : Flats [] []
  | cons {v : V} {d : D} {vs : List V} {ds : List D} : Flat v d → Flats vs ds → Flats (v :: vs) (d :: ds)
theorem Flats.rps {K : PySem.W.Frag} {H : Hp} {ι : Em} : ∀ {vs : List V} {ds : List D}, Flats vs ds → Rps K H ι vs ds
  | _, _, .nil => .nil
  | _, _, .cons h hs => .cons h.rp hs.rps
section
variable {X : Cx} {W : WX} {k : Nat} {f : Addr} {fd : FuncData} {ps : List Str} {F : FD} {dvs : List V} {dds : List D} {us : List Value} {x : Str} {p pos : Pos} {e : Expr} {es : List Expr} {da : DenA}
theorem rd_call {K : PySem.W.Frag} {mg : Str → Option Value} {σ : L2.St} {H : Hp} {Q : VK} {n : Nat} (fl : Flats dvs dds) (hn : ∀ ds S, ds.length + dds.length ≠ n → F (ds ++ dds) S = .bad) (h : rd K mg W (dCall F dds da) σ H Q) : tCallSD (spOf K mg n F) dvs (WE W) (rdA K mg W da) σ H Q := by
  obtain ⟨ι, env, S, s, er, q⟩ := h
  refine ⟨ι, env, S, s, er, (Post.bind (Rel' := Rps K) q).mono ?_⟩
  rintro xs H1 ⟨ι1, ds, S1, e1, s1, r1, p1⟩
  have r2 := r1.append (fl.rps (K := K) (H := H1) (ι := ι1))
  by_cases hl : ds.length + dds.length = n
  · exact ⟨by rw [r2.length, List.length_append]; exact hl, ι1, _, S1, s1, r2, Post.wish (E := WE W σ) p1 fun _ _ _ h => h⟩
  · rw [hn ds S1 hl] at p1; exact p1.elim
/-- a call's result where the number of arguments is right -/
def arity (n : Nat) (F : FD) : FD := fun ds S => if ds.length = n then F ds S else .bad
theorem e_call {n : Nat} (Fk : FnZ X.prog X.w X.K X.mg X.base k f fd ps F) (hr : Room k X.A) (hm : X.mg x = some (.ref f)) (hk : PySem.W.keepIn X.K (.ref f) = true) (hb : Binds X.K fd ps us) (hd : Vals dvs us) (fl : Flats dvs dds) (tk : L2N.Takes X W) (ha : AA X W (e :: es) da) (hn : ps.length = n := by rfl) (hg : Gl X x := by rfl)
    (hdb : (x == ("__debug__" : Str)) = false := by decide) (he : starEach (e :: es) X.env = (false, eval e X.env) :: starEach es X.env := by rfl) (hpl : (backTo pos (starEach es X.env)).any (·.1) = false := by rfl) :
    EE X W (.Call (.Name x p) (e :: es) [] pos) (dCall (arity n F) dds da) := by
  subst hn
  have F2 : FnOk X.prog X.w X.K X.mg X.base (L2N.CX X.prog X.w) k f fd ps (spOf X.K X.mg ps.length (arity ps.length F)) := Fk.imp fun vs H Q E h => by
    obtain ⟨h1, ι, ds, S, s, r, q⟩ := h
    unfold arity at q
    rw [if_pos (by rw [← r.length]; exact h1)] at q
    exact ⟨h1, ι, ds, S, s, r, q⟩
  refine PE.imp (pe_callSD F2 hr hg hm hk hb hd (fun σ => L2N.passAt tk σ) ha hdb he hpl) fun σ H Q h => rd_call fl (fun ds S hn => ?_) h
  unfold arity
  rw [if_neg (by rw [List.length_append]; exact hn)]
end

/-! ### methods of built-in types -/
inductive Mt where
  | list | str
def Mt.nm : Mt → String
  | .list => "list" | .str => "str"
def tyD : Mt → D → Sto → Bool
  | .list, x, S => (lstOf S x).isSome
  | .str, .str _, _ => true
  | _, _, _ => false
def dBM (t : Mt) (f : D → List D → Sto → R D) (o : Den) (a : DenA) : Den := fun env S => (o env S).bind fun x S1 => if tyD t x S1 = true then (a env S1).bind fun ys S2 => f x ys S2 else .bad
def dBM0 (t : Mt) (f : D → List D → Sto → R D) (o : Den) : Den := fun env S => (o env S).bind fun x S1 => if tyD t x S1 = true then f x [] S1 else .bad
def MzS (K : PySem.W.Frag) (r : V → List V → Hp → VK → Prop) (f : D → List D → Sto → R D) : Prop :=
  ∀ (mg : Str → Option Value) (W : WX) (σ : L2.St) (ι : Em) (H : Hp) (S : Sto) (x : V) (dx : D) (ys : List V) (dys : List D) (Q : VK), Sr K H ι S → Rp K H ι x dx → Rps K H ι ys dys → Post K mg (Rp K) W σ ι H (f dx dys S) Q → r x ys H Q
section
variable {X : Cx} {W : WX} {o e : Expr} {es : List Expr} {d : Den} {da : DenA} {apos cpos : Pos} {name : Str} {id : String} {r : V → List V → Hp → VK → Prop} {f : D → List D → Sto → R D}
theorem tyD_ok {K : PySem.W.Frag} {H : Hp} {ι : Em} {S : Sto} {v : V} {x : D} {t : Mt} (s : Sr K H ι S) (r : Rp K H ι v x) (h : tyD t x S = true) : tyV K t.nm v H := by
  cases t with
  | list =>
    simp only [tyD, Option.isSome_iff_exists] at h
    obtain ⟨xs, e⟩ := h
    obtain ⟨a, vs, rfl, hs, _⟩ := lst_inv s r e
    exact .inl ⟨rfl, vs, hs⟩
  | str =>
    cases x with
    | str z => cases r; exact rfl
    | _ => cases h
theorem e_bm (t : Mt) (pa : PlainAttrs t.nm) (slot : Slot t.nm name id) (hty : typeOf (.builtin id) = pure (.type "method_descriptor")) (hm : MtR X id r) (hf : MzS X.K r f) (ho : EE X W o d) (ha : AA X W (e :: es) da)
    (hbase : attributeBase o name X.env (eval o X.env) = eval o X.env := by rfl)
    (hfew : ((backTo cpos (starEach (e :: es) X.env)).all (fun x => !x.1) && (backToKw cpos (keywordEach [] X.env)).all (fun x => x.1.isSome) && decide ((e :: es).length + ([] : List Keyword).length + (if ([] : List Keyword).isEmpty then 0 else 1) < 30)) = true := by rfl)
    (hline : (apos.endLine == cpos.line) = true := by rfl) (hs : starEach (e :: es) X.env = (false, eval e X.env) :: starEach es X.env := by rfl) (hplain : (backTo cpos (starEach es X.env)).any (·.1) = false := by rfl) :
    EE X W (.Call (.Attribute o name apos) (e :: es) [] cpos) (dBM t f d da) := PE.imp (pe_bm pa slot hty hm ho ha hbase hfew hline hs hplain) fun σ H Q h => by
  obtain ⟨ι, env, S, s, er, p⟩ := h
  refine ⟨ι, env, S, s, er, (Post.bind (Rel' := Rp X.K) p).mono ?_⟩
  rintro x H1 ⟨ι1, dx, S1, e1, s1, r1, p1⟩
  split at p1
  · rename_i ht
    refine ⟨tyD_ok s1 r1 ht, ι1, env, S1, s1, er.ext e1, (Post.bind (Rel' := Rps X.K) p1).mono ?_⟩
    rintro ys H2 ⟨ι2, dys, S2, e2, s2, r2, p2⟩
    exact hf _ _ σ ι2 H2 S2 x dx ys dys Q s2 (r1.ext e2) r2 p2
  · exact p1.elim
theorem e_bm0 (t : Mt) (pa : PlainAttrs t.nm) (slot : Slot t.nm name id) (hty : typeOf (.builtin id) = pure (.type "method_descriptor")) (hm : MtR X id r) (hf : MzS X.K r f) (ho : EE X W o d)
    (hbase : attributeBase o name X.env (eval o X.env) = eval o X.env := by rfl) (hline : (apos.endLine == cpos.line) = true := by rfl) :
    EE X W (.Call (.Attribute o name apos) [] [] cpos) (dBM0 t f d) := PE.imp (pe_bm0 pa slot hty hm ho hbase hline) fun σ H Q h => by
  obtain ⟨ι, env, S, s, er, p⟩ := h
  refine ⟨ι, env, S, s, er, (Post.bind (Rel' := Rp X.K) p).mono ?_⟩
  rintro x H1 ⟨ι1, dx, S1, e1, s1, r1, p1⟩
  split at p1
  · rename_i ht
    exact ⟨tyD_ok s1 r1 ht, hf _ _ σ ι1 H1 S1 x dx [] [] Q s1 r1 .nil p1⟩
  · exact p1.elim
end
def fApp (x : D) (ys : List D) (S : Sto) : R D := match x, ys with
  | .ref n, [y] => match S[n]? with
    | some (.lst xs) => if FitS xs.length then .ok .non (S.set n (.lst (xs ++ [y]))) else .bad
    | none => .bad
  | _, _ => .bad
def fPop (x : D) (ys : List D) (S : Sto) : R D := match x, ys with
  | .ref n, [] => match S[n]? with
    | some (.lst xs) => match xs[xs.length - 1]? with
      | some y => .ok y (S.set n (.lst xs.dropLast))
      | none => .bad
    | none => .bad
  | _, _ => .bad
def fRevM (x : D) (ys : List D) (S : Sto) : R D := match x, ys with
  | .ref n, [] => match S[n]? with
    | some (.lst xs) => .ok .non (S.set n (.lst xs.reverse))
    | none => .bad
  | _, _ => .bad
section
variable {K : PySem.W.Frag}
theorem refL {H : Hp} {ι : Em} {S : Sto} {v : V} {n : Nat} {xs : List D} (s : Sr K H ι S) (r : Rp K H ι v (.ref n)) (e : S[n]? = some (.lst xs)) : ∃ a vs, v = .ref a ∧ ι.c[n]? = some a ∧ H a = some (.lst vs) ∧ Rps K H ι vs xs := by
  obtain ⟨a, rfl, ea⟩ := r.ref_inv
  obtain ⟨vs, h1, h2⟩ := s.list ea e
  exact ⟨a, vs, rfl, ea, h1, h2⟩
theorem Rps.dropLast {H : Hp} {ι : Em} {vs : List V} {ds : List D} (r : Rps K H ι vs ds) : Rps K H ι vs.dropLast ds.dropLast := by
  rw [List.dropLast_eq_take, List.dropLast_eq_take, r.length]; exact r.take _
theorem sApp : MzS K rAppend fApp := by
  intro mg W σ ι H S x dx ys dys Q s r rs p
  unfold fApp at p
  split at p
  · rename_i n y
    split at p
    · rename_i xs e
      split at p
      · rename_i hl
        obtain ⟨a, vs, rfl, ea, h1, h2⟩ := refL s r e
        obtain ⟨u, rfl, ru⟩ := rps1 rs
        exact ⟨a, vs, u, rfl, rfl, h1, by rw [h2.length]; exact hl, p ι _ _ (Ext.put ea) (s.put ea (h2.append (.cons ru .nil))) .non⟩
      · exact p.elim
    · exact p.elim
  · exact p.elim
theorem sPop : MzS K rPop fPop := by
  intro mg W σ ι H S x dx ys dys Q s r rs p
  unfold fPop at p
  split at p
  · rename_i n
    cases rs
    split at p
    · rename_i xs e
      split at p
      · rename_i y e2
        obtain ⟨a, vs, rfl, ea, h1, h2⟩ := refL s r e
        obtain ⟨u, e3, ru⟩ := h2.get e2
        exact ⟨a, vs, u, rfl, rfl, h1, by rw [h2.length]; exact e3, p ι _ _ (Ext.put ea) (s.put ea h2.dropLast) (ru.ext (Ext.put ea))⟩
      · exact p.elim
    · exact p.elim
  · exact p.elim
theorem sRevM : MzS K rReverse fRevM := by
  intro mg W σ ι H S x dx ys dys Q s r rs p
  unfold fRevM at p
  split at p
  · rename_i n
    cases rs
    split at p
    · rename_i xs e
      obtain ⟨a, vs, rfl, ea, h1, h2⟩ := refL s r e
      exact ⟨a, vs, rfl, rfl, h1, p ι _ _ (Ext.put ea) (s.put ea h2.reverse) .non⟩
    · exact p.elim
  · exact p.elim
end
/-! ### all, any of a list of bools -/
def boolsOf : List D → Option (List Bool)
  | [] => some []
  | .bl b :: xs => (boolsOf xs).map fun bs => b :: bs
  | _ :: _ => none
def fAll (xs : List D) (S : Sto) : R D := match xs with
  | [x] => match lstOf S x with
    | some ys => match boolsOf ys with
      | some bs => .ok (.bl (bs.all id)) S
      | none => .bad
    | none => .bad
  | _ => .bad
def fAny (xs : List D) (S : Sto) : R D := match xs with
  | [x] => match lstOf S x with
    | some ys => match boolsOf ys with
      | some bs => .ok (.bl (bs.any id)) S
      | none => .bad
    | none => .bad
  | _ => .bad
section
variable {K : PySem.W.Frag}
theorem bools_rp {H : Hp} {ι : Em} : ∀ {ds : List D} {vs : List V} {bs : List Bool}, Rps K H ι vs ds → boolsOf ds = some bs → vs = bs.map V.bl
  | [], _, _, r, e => by cases r; cases e; rfl
  | d :: ds, _, _, r, e => by
    cases r with
    | cons r rs =>
      cases d with
      | bl b =>
        rw [boolsOf] at e
        cases q : boolsOf ds with
        | none => rw [q] at e; cases e
        | some bs => rw [q] at e; cases e; cases r; rw [bools_rp rs q]; rfl
      | _ => cases e
theorem sAll : CbS K (rAll K) fAll := by
  intro mg W σ ι H S xs ds Q s r p
  unfold fAll at p
  split at p
  · obtain ⟨x, rfl, r0⟩ := rps1 r
    split at p
    · rename_i ys e
      split at p
      · rename_i bs e2
        obtain ⟨a, vs, rfl, hs, rs⟩ := lst_inv s r0 e
        rw [bools_rp rs e2] at hs
        exact ⟨a, bs, rfl, hs, p.ret s (.bl _)⟩
      · exact p.elim
    · exact p.elim
  · exact p.elim
theorem sAny : CbS K (rAny K) fAny := by
  intro mg W σ ι H S xs ds Q s r p
  unfold fAny at p
  split at p
  · obtain ⟨x, rfl, r0⟩ := rps1 r
    split at p
    · rename_i ys e
      split at p
      · rename_i bs e2
        obtain ⟨a, vs, rfl, hs, rs⟩ := lst_inv s r0 e
        rw [bools_rp rs e2] at hs
        exact ⟨a, bs, rfl, hs, p.ret s (.bl _)⟩
      · exact p.elim
    · exact p.elim
  · exact p.elim
end

/-! ### [e for t in xs if c] -/
def wipeE (env : Env) : List Nat → Env
  | [] => env
  | v :: vs => (wipeE env vs).set v none
theorem Er.wipe {K : PySem.W.Frag} {H : Hp} {ι : Em} {σ : L2.St} {env : Env} (h : Er K H ι σ env) : ∀ vs : List Nat, Er K H ι (L2.wipe σ vs) (wipeE env vs)
  | [] => h
  | v :: vs => (Er.wipe h vs).unset
open Classical in
noncomputable def lcGo (g : Sto → Prop) (t : Tg) (c : DenT) (elt : Den) (env : Env) : List D → List D → Sto → R (List D)
  | [], acc, S => if g S then .ok acc S else .bad
  | x :: xs, acc, S => if g S then match t.run x env with
    | some env' => match c env' S with
      | .ok b S1 => if b then (match elt env' S1 with
        | .ok y S2 => if FitS acc.length then lcGo g t c elt env xs (acc ++ [y]) S2 else .bad
        | _ => .bad) else lcGo g t c elt env xs acc S1
      | _ => .bad
    | none => .bad
    else .bad
def lcEnd (cell : Bool) (ys : List D) (S2 : Sto) : R D := if cell then .ok (.ref S2.length) (S2 ++ [.lst ys]) else .ok (.lst ys) S2
/-- cell: the new list is put into the store at the end -/
noncomputable def dLc (cell : Bool) (src : DenI) (vs : List Nat) (t : Tg) (c : DenT) (elt : Den) : Den := fun env S => (src env S).bind fun a S1 => (lcGo a.2 t c elt (wipeE env vs) a.1 [] S1).bind (lcEnd cell)
theorem wipe_sets : ∀ {ws : List (Nat × V)} {σ : L2.St} {vs : List Nat}, (∀ p ∈ ws, p.1 ∈ vs) → L2.wipe (setsV σ ws) vs = L2.wipe σ vs
  | [], _, _, _ => rfl
  | (i, v) :: r, σ, vs, h => by
    show L2.wipe (setsV (σ.set i (some v)) r) vs = _
    rw [wipe_sets fun p hp => h p (List.mem_cons_of_mem _ hp)]
    have hi : i ∈ vs := h (i, v) List.mem_cons_self
    clear h
    induction vs with
    | nil => cases hi
    | cons u us ih =>
      show (L2.wipe (σ.set i (some v)) us).set u none = (L2.wipe σ us).set u none
      by_cases hm : i ∈ us
      · rw [ih hm]
      · have e : i = u := by
          rcases List.mem_cons.mp hi with e | e
          · exact e
          · exact absurd e hm
        subst e
        have g : ∀ (τ : L2.St) (us : List Nat), i ∉ us → L2.wipe (τ.set i (some v)) us = (L2.wipe τ us).set i (some v) := fun τ us hu => by
          induction us with
          | nil => rfl
          | cons w ws ih2 =>
            show (L2.wipe (τ.set i (some v)) ws).set w none = ((L2.wipe τ ws).set w none).set i (some v)
            rw [ih2 fun z => hu (List.mem_cons_of_mem _ z)]
            exact List.set_comm _ _ fun z => hu (z ▸ List.mem_cons_self)
        rw [g σ us hm, List.set_set]
section
variable {X : Cx} {W : WX}
abbrev W0 : WX := fun _ _ _ _ => False
theorem wipe_idem (σ : L2.St) (vs : List Nat) : L2.wipe (L2.wipe σ vs) vs = L2.wipe σ vs := by
  have g : ∀ (us : List Nat) (τ : L2.St), (∀ u ∈ us, ∀ j, j < τ.length → u = j → τ[j]? = some none) → L2.wipe τ us = τ := fun us => by
    induction us with
    | nil => intro τ _; rfl
    | cons u us ih =>
      intro τ h
      show (L2.wipe τ us).set u none = τ
      rw [ih τ fun w hw => h w (List.mem_cons_of_mem _ hw)]
      apply List.ext_getElem?
      intro j
      by_cases e : u = j
      · subst e
        by_cases hl : u < τ.length
        · rw [List.getElem?_set_self hl, h u List.mem_cons_self u hl rfl]
        · rw [List.getElem?_eq_none (by simpa using hl), List.getElem?_eq_none (by simpa using hl)]
      · rw [List.getElem?_set_ne e]
  have k : ∀ (us : List Nat) (u : Nat) (j : Nat), u ∈ us → u = j → j < (L2.wipe σ us).length → (L2.wipe σ us)[j]? = some none := fun us => by
    induction us with
    | nil => intro u j h; cases h
    | cons w ws ih =>
      intro u j hu e hl
      subst e
      show ((L2.wipe σ ws).set w none)[u]? = some none
      by_cases e2 : w = u
      · subst e2
        rw [List.getElem?_set_self (by rw [L2.wipe_length] at hl ⊢; exact hl)]
      · rw [List.getElem?_set_ne e2]
        rcases List.mem_cons.mp hu with q | q
        · exact absurd q.symm e2
        · exact ih u u q rfl (by rw [L2.wipe_length] at hl ⊢; exact hl)
  exact g vs _ fun u hu j hl e => k vs u j hu e hl
theorem rd_lc {K : PySem.W.Frag} {mg : Str → Option Value} {cell : Bool} {src : DenI} {vs : List Nat} {t : Tg} {c : DenT} {elt : Den} (hsl : ∀ i ∈ t.sl, i ∈ vs) {σ : L2.St} {H : Hp} {Q : VK} (h : rd K mg W (dLc cell src vs t c elt) σ H Q) :
    tLc (rdI K mg W src) (rdG K t) (rdT K mg W0 c) (rd K mg W0 elt) vs σ H Q := by
  obtain ⟨ι, env, S, s, er, p⟩ := h
  refine ⟨ι, env, S, s, er, (Post.bind (Rel' := fun H1 ι1 J a => ItOk K J a.1 a.2 ι1 H1) p).mono ?_⟩
  rintro J H1 ⟨ι1, ⟨xs, g⟩, S1, e1, s1, r1, p1⟩
  have erw := (er.ext e1).wipe vs
  clear p er e1 s
  simp only at r1 p1
  intro Da hD
  have hDb : Da ∉ ι1.b := fun z => s1.ban _ z hD
  refine ⟨fun i m H => m = xs.length - i ∧ i ≤ xs.length ∧ ∃ ι2 S2 acc us, Ext ι1 H1 ι2 H ∧ Sr K H ι2 S2 ∧ Da ∈ ι2.b ∧ Da ∉ ι2.c ∧ H Da = some (.lst us) ∧ Rps K H ι2 us acc ∧
      Post K mg (Rp K) W σ ι1 H1 ((lcGo g t c elt (wipeE env vs) (xs.drop i) acc S2).bind (lcEnd cell)) Q,
    ⟨xs.length, rfl, Nat.zero_le _, ι1.ban Da, S1, [], [], Ext.banned hD, s1.banned hD, List.mem_cons_self, s1.outC hD, upd_same, .nil, p1⟩, ?_⟩
  rintro i m H2 ⟨rfl, hi, ι2, S2, acc, us, e2, s2, hb, hc, hd, ra, p2⟩
  by_cases hlt : i < xs.length
  · rw [List.drop_eq_getElem_cons hlt] at p2
    simp only [lcGo] at p2
    split at p2
    · rename_i hg2
      obtain ⟨go, gy⟩ := r1.go ι2 H2 S2 i _ e2 s2 hg2 (List.getElem?_eq_getElem hlt)
      refine .inr ⟨go, fun H' => ∃ ι2 S2 acc us, Ext ι1 H1 ι2 H' ∧ Sr K H' ι2 S2 ∧ Da ∈ ι2.b ∧ Da ∉ ι2.c ∧ H' Da = some (.lst us) ∧ Rps K H' ι2 us acc ∧
        Post K mg (Rp K) W σ ι1 H1 ((lcGo g t c elt (wipeE env vs) (xs.drop (i + 1)) acc S2).bind (lcEnd cell)) Q,
        fun H' q => ⟨xs.length - (i + 1), by omega, rfl, hlt, q⟩, fun v H3 y => ?_⟩
      obtain ⟨e3, s3, r3⟩ := gy v H3 y
      split at p2
      · rename_i env' e5
        refine ⟨ι2, wipeE env vs, _, env', (erw.ext e2).ext e3, r3, e5, fun ws hw er' => ⟨?_, ?_⟩⟩
        · rw [wipe_sets fun p hp => hsl _ (hw p hp), wipe_idem]
        have hd3 : H3 Da = some (.lst us) := e3.keep _ _ hc hd
        refine ⟨ι2, env', S2, s3, er', ?_⟩
        split at p2
        · rename_i b S3 ec
          rw [ec]
          intro ι3 H4 b' e4 s4 hbb
          subst hbb
          have hc4 : Da ∉ ι3.c := e4.outC hc hd3
          have hd4 : H4 Da = some (.lst us) := e4.keep _ _ hc hd3
          have hb4 : Da ∈ ι3.b := by obtain ⟨nb, q, _⟩ := e4.ban; rw [q]; exact List.mem_append_right _ hb
          have e14 := (e2.tr s2 e3).tr s3 e4
          cases b' with
          | false =>
            rw [if_neg Bool.false_ne_true]
            exact ⟨ι3, S3, acc, us, e14, s4, hb4, hc4, hd4, (ra.ext e3).ext e4, p2⟩
          | true =>
            rw [if_pos rfl]
            simp only [if_true] at p2
            refine ⟨ι3, env', S3, s4, er'.ext e4, ?_⟩
            split at p2
            · rename_i y1 S5 ee
              rw [ee]
              intro ι4 H5 yv e5' s5 r5
              have hc5 : Da ∉ ι4.c := e5'.outC hc4 hd4
              have hd5 : H5 Da = some (.lst us) := e5'.keep _ _ hc4 hd4
              have hb5 : Da ∈ ι4.b := by obtain ⟨nb, q, _⟩ := e5'.ban; rw [q]; exact List.mem_append_right _ hb4
              split at p2
              · rename_i hl
                have ra5 := ((ra.ext e3).ext e4).ext e5'
                have e15 := e14.tr s4 e5'
                refine ⟨us, hd5, by rw [ra5.length]; exact hl, ι4, S5, acc ++ [y1], us ++ [yv], ?_, s5.ban2 hb5 hc5, hb5, hc5, upd_same, (ra5.append (.cons r5 .nil)).ban2 hb5, p2⟩
                exact ⟨e15.ban, e15.pre, fun a o ha h => by rw [upd_ne (ne_of_none h hD)]; exact e15.keep a o ha h⟩
              · exact p2.elim
            · exact p2.elim
        · exact p2.elim
      · exact p2.elim
    · exact p2.elim
  · have hi' : i = xs.length := by omega
    subst hi'
    rw [List.drop_length] at p2
    simp only [lcGo] at p2
    split at p2
    · rename_i hg2
      refine .inl ⟨r1.stop ι2 H2 S2 e2 s2 hg2, ?_⟩
      rcases e2.free (p := Da) with ef | ef
      · cases cell with
        | false =>
          exact p2 (ι2.free Da) H2 (.ref Da) ef s2.free (.lst (fun z => by
            rcases z with z | z
            · exact hc z
            · simpa using (List.mem_filter.mp z).2) hd (ra.less (fun _ => Em.free_has) fun _ _ z => z))
        | true =>
          refine p2 ((ι2.free Da).push Da) H2 (.ref Da) ⟨ef.ban, ?_, ef.keep⟩ (s2.adopt hb hc hd ra) (.ref ?_)
          · obtain ⟨new, q, k⟩ := ef.pre
            replace q : ι2.c = ι1.c ++ new := q
            refine ⟨new ++ [Da], ?_, fun p hp => ?_⟩
            · show ι2.c ++ [Da] = _
              rw [← List.append_assoc, ← q]
            · rcases List.mem_append.mp hp with hp | hp
              · exact k p hp
              · cases List.mem_singleton.mp hp; exact hD
          · show (ι2.c ++ [Da])[S2.length]? = some Da
            rw [← s2.len]; simp
      · exact absurd ef hDb
    · exact p2.elim
def tYesD : DenT := fun _ S => .ok true S
theorem rdT_yes {K : PySem.W.Frag} {mg : Str → Option Value} {W : WX} {σ : L2.St} {H : Hp} {Q : Bool → Hp → Prop} (h : rdT K mg W tYesD σ H Q) : tYes σ H Q := by
  obtain ⟨ι, env, S, s, er, p⟩ := h
  exact p.ret s rfl
end
end
end Z
end

section
set_option Elab.async false
set_option linter.all false
set_option maxRecDepth 100000
set_option maxHeartbeats 1000000
namespace Z
noncomputable section
open PySem PySem.Spec PyProof.Rows L2

/-! ### comprehensions, in short -/
section
variable {X : Cx} {W : WX} {tg iter elt c : Expr} {src : DenI} {t : Tg} {dc : DenT} {d : Den} {scope : Scope} {own : List (Str × Nat)} {pos : Pos}
theorem ts_nil {X : Cx} {K : PySem.W.Frag} {mg : Str → Option Value} : PTs X [] (rdT K mg W0 tYesD) := ⟨fun pins s σ H Q I h => pts_nil.run pins s σ H Q I (rdT_yes h)⟩
theorem ts_one {X : Cx} {K : PySem.W.Frag} {mg : Str → Option Value} (h : PT X c (rdT K mg W0 dc)) : PTs X [c] (rdT K mg W0 dc) := pts_one h
theorem e_lc (cell : Bool) (hc : X.calm = true) (hN : X.N.Nodup) {ifs : List Expr} (hi : II X W tg iter src) (ok : BlkOk X.N X.env.scope scope own)
    (hg : ∀ (s : Shared) (H : Hp) (C : Addr) (cl : List (Str × Addr)) (fp : List Addr), PG (X.blk s H scope (compEnvC scope cl C X.env) fp) tg (rdG X.K t)) (ht : ∀ (s : Shared) (H : Hp) (C : Addr) (cl : List (Str × Addr)) (fp : List Addr), PTs (X.blk s H scope (compEnvC scope cl C X.env) fp) ifs (rdT X.K X.mg W0 dc))
    (he : ∀ (s : Shared) (H : Hp) (C : Addr) (cl : List (Str × Addr)) (fp : List Addr), PE (X.blk s H scope (compEnvC scope cl C X.env) fp) elt (rd X.K X.mg W0 d)) (hsl : ∀ i ∈ t.sl, i ∈ own.map (·.2)) (hs : ∀ x, foldedSetIterable iter X.env x = pure x := by intro _; rfl) :
    EE X W (.ListComp elt [⟨tg, iter, ifs, 0⟩] scope pos) (dLc cell src (own.map (·.2)) t dc d) := PE.imp (pe_lc hc hN hi ok hg ht he hs) fun σ H Q h => rd_lc hsl h
theorem s_setLc (cell : Bool) {i : Nat} {y : Str} {py spos : Pos} (hc : X.calm = true) (hN : X.N.Nodup) (hy : X.N[i]? = some y) (hyl : X.env.scope.names.lookup y = some .local) {ifs : List Expr}
    (hsw : swapsWith (.ListComp elt [⟨tg, iter, ifs, 0⟩] scope pos) (some (.Name y py)) spos.line X.env = pure true) (hi : II X W tg iter src) (ok : BlkOk X.N X.env.scope scope own)
    (hg : ∀ (s : Shared) (H : Hp) (C : Addr) (cl : List (Str × Addr)) (fp : List Addr), PG (X.blk s H scope (compEnvC scope cl C X.env) fp) tg (rdG X.K t)) (ht : ∀ (s : Shared) (H : Hp) (C : Addr) (cl : List (Str × Addr)) (fp : List Addr), PTs (X.blk s H scope (compEnvC scope cl C X.env) fp) ifs (rdT X.K X.mg W0 dc))
    (he : ∀ (s : Shared) (H : Hp) (C : Addr) (cl : List (Str × Addr)) (fp : List Addr), PE (X.blk s H scope (compEnvC scope cl C X.env) fp) elt (rd X.K X.mg W0 d)) (hsl : ∀ i ∈ t.sl, i ∈ own.map (·.2)) (hs : ∀ x, foldedSetIterable iter X.env x = pure x := by intro _; rfl) :
    SS X W (.Assign [.Name y py] (.ListComp elt [⟨tg, iter, ifs, 0⟩] scope pos) spos) (sSet i (dLc cell src (own.map (·.2)) t dc d)) := PS.imp (ps_setLc hc hN hy hyl hsw hi ok hg ht he hs) fun Dn σ H h => by
  obtain ⟨ι, env, S, s, er, p⟩ := h
  have q := PostS.lift (Rel := Rp X.K) p er
  refine rd_lc hsl ⟨ι, env, S, s, er, q.mono ?_⟩
  rintro x H1 ⟨ι1, dx, S1, e1, s1, r1, p1⟩
  exact p1.nx s1 ((er.ext e1).set r1)
end

/-! ### errors of the program's own -/
/-- what the written part says of an error class c at C with the fields ks -/
structure ErrC (K : PySem.W.Frag) (mg : Str → Option Value) (c : Str) (C : Addr) (ks : List Str) : Prop where
  gl : mg c = some (.ref C)
  oex : OexC K C
  xf : XfC K C
  cl : (PySem.W.clsIn K C).isSome = true
  ca : PySem.W.findIn K (.ref C) "__class__" = some (some (.builtin "object.__class__"))
  cn : PySem.W.specialIn K (.builtin "object.__class__") "__get__" = some (some (.builtin "getset_descriptor.__get__"))
  ct : PySem.W.takesIn K (.builtin "object.__class__") = some true
  cm : PySem.W.mroIn K C (.type "object") = some true
  no : ∀ f ∈ ks, PySem.W.findIn K (.ref C) f = some none
/-- __init__ with one, two fields -/
def spI1 (K : PySem.W.Frag) (C : Addr) (f : Str) : Sp := fun vs H Q _ => ∃ a y, vs = [.ref a, y] ∧ OexC K C ∧ PySem.W.findIn K (.ref C) f = some none ∧ H a = some (exo a C none) ∧ ∀ dx, H dx = none → dx ≠ a → Q .non (upd (upd H dx (exd dx [(f, y)])) a (exo a C (some dx)))
def spI2 (K : PySem.W.Frag) (C : Addr) (f g : Str) : Sp := fun vs H Q _ => ∃ a y z, vs = [.ref a, y, z] ∧ OexC K C ∧ PySem.W.findIn K (.ref C) f = some none ∧ PySem.W.findIn K (.ref C) g = some none ∧ H a = some (exo a C none) ∧
  ∀ dx, H dx = none → dx ≠ a → Q .non (upd (upd (upd H dx (exd dx [(f, y)])) a (exo a C (some dx))) dx (exd dx [(g, z), (f, y)]))
theorem read_I1 {K : PySem.W.Frag} {C : Addr} {f : Str} {vs : List V} {H : Hp} {Q : VK} {E : XK} {N : List Str} (h : spI1 K C f vs H Q E) (hN : N.length = 2) : (tOst K f (tVar 0) (tVar 1)) { nx := fun _ H' => Q .non H', rt := Q } (L2.start N vs) H := by
  obtain ⟨a, y, rfl, T, hf, ha, q⟩ := h
  refine ⟨y, by simp [L2.start], .ref a, by simp [L2.start], a, C, rfl, T, hf, .inl ⟨ha, fun dx h1 h2 => q dx h1 h2⟩⟩
theorem read_I2 {K : PySem.W.Frag} {C : Addr} {f g : Str} {vs : List V} {H : Hp} {Q : VK} {E : XK} {N : List Str} (h : spI2 K C f g vs H Q E) (hN : N.length = 3) : (tSeq (tOst K f (tVar 0) (tVar 1)) (tOst K g (tVar 0) (tVar 2))) { nx := fun _ H' => Q .non H', rt := Q } (L2.start N vs) H := by
  obtain ⟨a, y, z, rfl, T, hf, hg, ha, q⟩ := h
  refine ⟨y, by simp [L2.start], .ref a, by simp [L2.start], a, C, rfl, T, hf, .inl ⟨ha, fun dx h1 h2 => ?_⟩⟩
  refine ⟨z, by simp [L2.start], .ref a, by simp [L2.start], a, C, rfl, T, hg, .inr ⟨dx, [(f, y)], upd_same, ?_, by simp, q dx h1 h2⟩⟩
  rw [upd_ne h2, upd_same]
/-- raise c(..): the last field first -/
def sRaise (c : Str) (ks : List Str) (a : DenA) : SDen := fun env S => (a env S).lift env fun ds S1 => if ds.length = ks.length then .ex c ((ks.zip ds).reverse) env S1 else .bad
section
variable {X : Cx} {W : WX} {e : Expr} {es : List Expr} {da : DenA} {pos pos2 p : Pos} {c : Str} {C fI : Addr} {k : Nat} {fd : FuncData} {ps : List Str}
theorem del_new {H : Hp} {a d : Addr} {o : HO} (h : H a = none) (hd : d ≠ a) : upd (del H a) d o = upd H d o := by
  funext b
  by_cases hb : b = d
  · subst hb; rw [upd_same, upd_same]
  · rw [upd_ne hb, upd_ne hb]
    by_cases h2 : b = a
    · subst h2; rw [del_same, h]
    · rw [del_ne h2]
/-- the raised error's end -/
theorem raise_end {K : PySem.W.Frag} {mg : Str → Option Value} {σ : L2.St} {ι : Em} {H : Hp} {S : Sto} {env : Env} {fs : List (Str × D)} {Dn : Ends} {us : List V} {a dx : Addr} (p : PostS K mg W ι H (.ex c fs env S) Dn) (s : Sr K H ι S) (er : Er K H ι σ env) (hm : mg c = some (.ref C)) (ha : H a = none) (hd : H dx = none) (hda : dx ≠ a)
    (r : Rps K H ι us (fs.map (·.2))) {gs : List (Str × V)} (hg : gs = (fs.map (·.1)).zip us) : W (.ref C) (some dx) σ (upd (del H a) dx (.xd gs)) := by
  subst hg
  rw [del_new ha hda]
  exact p ι _ σ dx C us (Ext.new hd) (s.new hd) (er.ext (Ext.new hd)) hm upd_same (s.out hd) (r.ext (Ext.new hd))
theorem s_raise1 {f : Str} (T : ErrC X.K X.mg c C [f]) (iC : PySem.W.findIn X.K (.ref C) "__init__" = some (some (.ref fI))) (tI : PySem.W.typeIn X.K (.ref fI) = some (.type "function"))
    (F1 : FnOk X.prog X.w X.K X.mg X.base (L2N.CX X.prog X.w) k fI fd ps (spI1 X.K C f)) (hr : Room (k + 1) X.A) (hb : Binds X.K fd ps []) (tk : L2N.Takes X W) (ha : AA X W (e :: es) da) (hc : X.calm = true := by rfl) (hg : Gl X c := by rfl)
    (hdb : (c == ("__debug__" : Str)) = false := by decide) (he : starEach (e :: es) X.env = (false, eval e X.env) :: starEach es X.env := by rfl) (hpl : (backTo pos (starEach es X.env)).any (·.1) = false := by rfl) :
    SS X W (.Raise (some (.Call (.Name c p) (e :: es) [] pos)) none pos2) (sRaise c [f] da) := PS.imp (L2N.ps_raise hc tk (pmkN_oex T.oex iC tI F1 hr hb passN hg T.gl ha hdb he hpl)) fun Dn σ H h => by
  obtain ⟨ι, env, S, s, er, p⟩ := h
  refine ⟨ι, env, S, s, er, (PostS.lift (Rel := Rps X.K) p er).mono ?_⟩
  rintro vs H1 ⟨ι1, ds, S1, e1, s1, r1, p1⟩
  split at p1
  · rename_i hl
    match ds, hl, r1 with
    | [d], _, r1 =>
      obtain ⟨y, rfl, ry⟩ := rps1 r1
      refine ⟨by simp, fun a hna => ⟨a, y, rfl, T.oex, T.no f (by simp), upd_same, fun dx h1 h2 => ⟨rfl, dx, [(f, y)], upd_same, ?_, ?_, ?_⟩⟩⟩
      · rw [upd_ne h2, upd_same]
      · rw [upd_ne h2] at h1; exact h1
      · rw [upd_ne h2] at h1
        have e3 : upd (del (upd (upd (upd H1 a (exo a C none)) dx (exd dx [(f, y)])) a (exo a C (some dx))) a) dx (.xd [(f, y)]) = upd (del H1 a) dx (.xd [(f, y)]) := by
          funext b
          by_cases hb : b = dx
          · subst hb; rw [upd_same, upd_same]
          · rw [upd_ne hb, upd_ne hb]
            by_cases h3 : b = a
            · subst h3; rw [del_same, del_same]
            · rw [del_ne h3, del_ne h3, upd_ne h3, upd_ne hb, upd_ne h3]
        rw [e3]
        exact raise_end p1 s1 (er.ext e1) T.gl hna h1 h2 (.cons ry .nil) rfl
  · exact p1.elim
theorem s_raise2 {f g : Str} (T : ErrC X.K X.mg c C [f, g]) (iC : PySem.W.findIn X.K (.ref C) "__init__" = some (some (.ref fI))) (tI : PySem.W.typeIn X.K (.ref fI) = some (.type "function"))
    (F1 : FnOk X.prog X.w X.K X.mg X.base (L2N.CX X.prog X.w) k fI fd ps (spI2 X.K C f g)) (hr : Room (k + 1) X.A) (hb : Binds X.K fd ps []) (tk : L2N.Takes X W) (ha : AA X W (e :: es) da) (hc : X.calm = true := by rfl) (hg : Gl X c := by rfl)
    (hdb : (c == ("__debug__" : Str)) = false := by decide) (he : starEach (e :: es) X.env = (false, eval e X.env) :: starEach es X.env := by rfl) (hpl : (backTo pos (starEach es X.env)).any (·.1) = false := by rfl) :
    SS X W (.Raise (some (.Call (.Name c p) (e :: es) [] pos)) none pos2) (sRaise c [f, g] da) := PS.imp (L2N.ps_raise hc tk (pmkN_oex T.oex iC tI F1 hr hb passN hg T.gl ha hdb he hpl)) fun Dn σ H h => by
  obtain ⟨ι, env, S, s, er, p⟩ := h
  refine ⟨ι, env, S, s, er, (PostS.lift (Rel := Rps X.K) p er).mono ?_⟩
  rintro vs H1 ⟨ι1, ds, S1, e1, s1, r1, p1⟩
  split at p1
  · rename_i hl
    match ds, hl, r1 with
    | [d, d2], _, r1 =>
      obtain ⟨y, z, rfl, ry, rz⟩ := rps2 r1
      refine ⟨by simp, fun a hna => ⟨a, y, z, rfl, T.oex, T.no f (by simp), T.no g (by simp), upd_same, fun dx h1 h2 => ⟨rfl, dx, [(g, z), (f, y)], ?_, upd_same, ?_, ?_⟩⟩⟩
      · rw [upd_ne (Ne.symm h2), upd_same]
      · rw [upd_ne h2] at h1; exact h1
      · rw [upd_ne h2] at h1
        have e3 : upd (del (upd (upd (upd (upd H1 a (exo a C none)) dx (exd dx [(f, y)])) a (exo a C (some dx))) dx (exd dx [(g, z), (f, y)])) a) dx (.xd [(g, z), (f, y)]) = upd (del H1 a) dx (.xd [(g, z), (f, y)]) := by
          funext b
          by_cases hb : b = dx
          · subst hb; rw [upd_same, upd_same]
          · rw [upd_ne hb, upd_ne hb]
            by_cases h3 : b = a
            · subst h3; rw [del_same, del_same]
            · rw [del_ne h3, del_ne h3, upd_ne hb, upd_ne h3, upd_ne hb, upd_ne h3]
        rw [e3]
        exact raise_end p1 s1 (er.ext e1) T.gl hna h1 h2 (.cons rz (.cons ry .nil)) rfl
  · exact p1.elim
end

/-! ### try: .. except c as n: .. -/
open Classical in
noncomputable def collapse (k : Addr → Addr → F) : F := if h : ∃ f, ∀ a d, k a d = f then Classical.choose h else .bad
theorem collapse_const (f : F) : collapse (fun _ _ => f) = f := by
  unfold collapse
  have h : ∃ g : F, ∀ _ _ : Addr, f = g := ⟨f, fun _ _ => rfl⟩
  rw [dif_pos h]
  exact (Classical.choose_spec h 0 0).symm
def endX (i : Nat) (f : F) : F := match f with
  | .nx e S => .nx (e.set i none) S
  | .bk e S => .bk (e.set i none) S
  | .ct e S => .ct (e.set i none) S
  | .rt d S => .rt d S
  | _ => .bad
noncomputable def sTry (c : Str) (i : Nat) (body : SDen) (h : Addr → Addr → SDen) : SDen := fun env S => match body env S with
  | .ex c' fs e S' => if c' = c then collapse fun a dd => endX i (h a dd (e.set i (some (.err a dd (fs.map (·.1)) (fs.map (·.2))))) S') else .bad
  | f => f
def dXf (a dd : Addr) (f : Str) (d : Den) : Den := fun env S => (d env S).bind fun x S1 => match x with
  | .err a' dd' ks ds => if a' = a ∧ dd' = dd then (match (ks.zip ds).lookup f with
    | some v => .ok v S1
    | none => .bad) else .bad
  | _ => .bad
def dXis (a dd : Addr) (b : Bool) (d : Den) : Den := fun env S => (d env S).bind fun x S1 => match x with
  | .err a' dd' _ _ => if a' = a ∧ dd' = dd then .ok (.bl b) S1 else .bad
  | _ => .bad
section
variable {K : PySem.W.Frag} {mg : Str → Option Value} {W : WX} {ι : Em} {H : Hp} {Dn : Ends}
theorem PostS.collapse {k : Addr → Addr → F} (h : PostS K mg W ι H (Z.collapse k) Dn) (a d : Addr) : PostS K mg W ι H (k a d) Dn := by
  unfold Z.collapse at h
  split at h
  · rename_i g
    rw [Classical.choose_spec g a d]; exact h
  · exact h.elim
theorem PostS.endX {W' : WX} {i : Nat} {f : F} (h : PostS K mg W ι H (Z.endX i f) Dn) :
    PostS K mg W' ι H f { nx := fun σ' H' => Dn.nx (σ'.set i none) H', rt := Dn.rt, bk := fun σ' H' => Dn.bk (σ'.set i none) H', ct := fun σ' H' => Dn.ct (σ'.set i none) H' } := by
  cases f with
  | nx e S' => exact fun ι2 H2 σ' e2 s2 r2 => h ι2 H2 _ e2 s2 r2.unset
  | bk e S' => exact fun ι2 H2 σ' e2 s2 r2 => h ι2 H2 _ e2 s2 r2.unset
  | ct e S' => exact fun ι2 H2 σ' e2 s2 r2 => h ι2 H2 _ e2 s2 r2.unset
  | rt d S' => exact h
  | ex c fs e S' => exact h.elim
  | bad => exact h.elim
theorem look_rp : ∀ {ks : List Str} {ds : List D} {us : List V} {f : Str} {d : D}, Rps K H ι us ds → (ks.zip ds).lookup f = some d → ∃ v, (ks.zip us).lookup f = some v ∧ Rp K H ι v d
  | [], _, _, _, _, _, e => by simp at e
  | k :: ks, [], _, _, _, _, e => by simp at e
  | k :: ks, d :: ds, _, f, d', r, e => by
    cases r with
    | cons r rs =>
      rw [List.zip_cons_cons, List.lookup_cons] at e
      rw [List.zip_cons_cons, List.lookup_cons]
      by_cases hf : (f == k) = true
      · rw [hf] at e ⊢; cases e; exact ⟨_, rfl, r⟩
      · have hf' : (f == k) = false := by simpa using hf
        rw [hf'] at e ⊢; exact look_rp rs e
end
section
variable {X : Cx} {W : WX} {c n : Str} {C : Addr} {i : Nat} {ks : List Str} {body suite : List Stmt} {b₀ : Stmt} {np pos pos' : Pos} {db : SDen} {h : Addr → Addr → SDen}
theorem s_try (hN : X.N.Nodup) (T : ErrC X.K X.mg c C ks) (exm : PySem.W.exmOne X.K (.ref C) (.ref C) = some true) (tk : L2N.Takes X W)
    (hb : ∀ (W' : WX) (pn : List (Addr × Obj)) (xe : Value → Shared → Prop), L2N.Takes (X.tr pn xe) W' → PassesOwn (model X.prog X.w) X.A X.env xe → SSs (X.tr pn xe) W' body db)
    (hsu : ∀ (a : Addr) (oe : Obj) (dd : Addr) (pn : List (Addr × Obj)), Zc (.ref C) (some dd) oe → (∃ vs, oe.data = .fields vs) → L2H.HotC (X.suite a ((a, oe) :: pn)) → PSs (X.suite a ((a, oe) :: pn)) (b₀ :: suite) (rdS X.K X.mg W0 (h a dd)))
    (hs : X.stack = X.env :: X.outer := by rfl) (hf : X.env.frame = some X.env.locals := by rfl) (hi : X.N[i]? = some n := by rfl) (hln : X.env.kindOf n = some .local := by rfl) (hg : Gl X c := by rfl) (hdb : (c == ("__debug__" : Str)) = false := by decide) :
    SS X W (.Try body [.ExceptHandler (some (.Name c np)) (some n) (b₀ :: suite) pos'] [] [] pos) (sTry c i db h) := by
  have hz := L2N.ps_try_as (X := X) (x := c) (n := n) (c := .ref C) (i := i) (body := body) (suite := suite) (b₀ := b₀) (np := np) (pos := pos) (pos' := pos') (tb := fun W' => rdS X.K X.mg W' db)
    (ts := fun a cls d => fun Dn σ H => ∃ dd, cls = .ref C ∧ d = some dd ∧ rdS X.K X.mg W0 (h a dd) Dn σ H) (Wout := W) hs hf hN hi hln ⟨hg, hdb, .inl T.gl⟩ tk (fun W' pn xe t p => hb W' pn xe t p)
    (fun a oe cls d pn z v => ⟨fun pins s σ H Dn I q => by
      obtain ⟨dd, rfl, rfl, q⟩ := q
      exact (hsu a oe dd pn z.zc v ⟨(a, oe), ⟨rfl, v.choose, v.choose_spec, z.2.2 _ v.choose_spec⟩, List.mem_cons_self⟩).run pins s σ H Dn I q⟩)
  refine PS.imp hz fun Dn σ H q => ?_
  obtain ⟨ι, env, S, s, er, p⟩ := q
  refine ⟨ι, env, S, s, er, ?_⟩
  unfold sTry at p
  cases q : db env S with
  | ex c' fs e S' =>
    rw [q] at p
    simp only at p
    intro ι' H' σ' dd C' us e1 s1 er1 hm hd hn rus
    split at p
    · rename_i ec
      subst ec
      have eC : C' = C := by rw [T.gl] at hm; cases hm; rfl
      subst eC
      refine ⟨true, exm, fun _ a ha => ⟨dd, rfl, rfl, ι', _, S', s1, er1.set (.err (a := a) hn hd rus), ?_⟩, fun z => by cases z⟩
      exact ((p.collapse a dd).endX).ext e1 s1
    · exact p.elim
  | nx _ _ => rw [q] at p; exact p
  | bk _ _ => rw [q] at p; exact p
  | ct _ _ => rw [q] at p; exact p
  | rt _ _ => rw [q] at p; exact p
  | bad => rw [q] at p; exact p
theorem e_xf {a dd : Addr} {oe : Obj} {pn : List (Addr × Obj)} {f : Str} {e : Expr} {d : Den} (T : ErrC X.K X.mg c C ks) (hfk : f ∈ ks) (hz : Zc (.ref C) (some dd) oe) (hv : ∃ vs, oe.data = .fields vs) (he : PE (X.suite a ((a, oe) :: pn)) e (rd X.K X.mg W0 d))
    (hb : attributeBase e f X.env (eval e X.env) = eval e X.env := by rfl) : PE (X.suite a ((a, oe) :: pn)) (.Attribute e f pos) (rd X.K X.mg W0 (dXf a dd f d)) := PE.imp (pe_xf T.xf (T.no f hfk) hz hv he hb) fun σ H Q h => by
  obtain ⟨ι, env, S, s, er, p⟩ := h
  refine ⟨ι, env, S, s, er, (Post.bind (Rel' := Rp X.K) p).mono ?_⟩
  rintro x H1 ⟨ι1, dx, S1, e1, s1, r1, p1⟩
  split at p1
  · rename_i a' dd' ks' ds
    split at p1
    · rename_i ha
      obtain ⟨rfl, rfl⟩ := ha
      cases r1 with
      | err hn hd rs =>
        split at p1
        · rename_i v ev
          obtain ⟨u, eu, ru⟩ := look_rp rs ev
          exact ⟨rfl, rfl, _, _, u, rfl, hd, eu, p1.ret s1 ru⟩
        · exact p1.elim
    · exact p1.elim
  · exact p1.elim
theorem kit_err {x : Addr} {ox : Obj} {od : Option Obj} {K : PySem.W.Frag} {mg : Str → Option Value} (T : ErrC K mg c C ks) : PySem.W.KitX K (.ref x) (.ref C) (fun h => PySem.W.InstAt h x ox C od) := PySem.W.kitx_exc T.cl T.xf.ga T.xf.gg T.xf.exC T.ca T.cn T.ct T.cm
def rIsX (K : PySem.W.Frag) (C a dd : Addr) : List V → Hp → VK → Prop := fun xs H Q => ∃ (v : V) (cv : Value) (b : Bool) (gs : List (Str × V)), xs = [.ref a, v] ∧ (∀ u, RelV v u → u = cv) ∧ PySem.W.kitOne K (.ref C) cv = some b ∧ H dd = some (.xd gs) ∧ Q (.bl b) H
theorem call_isX {a dd : Addr} {oe : Obj} {pn : List (Addr × Obj)} (T : ErrC X.K X.mg c C ks) (hz : Zc (.ref C) (some dd) oe) (hf : ∃ vs, oe.data = .fields vs) : CallR (X.suite a ((a, oe) :: pn)) (.builtin "isinstance") (rIsX X.K C a dd) := by
  rintro pins s σ H _ us Q I r ⟨v, cv, b, gs, rfl, hcv, hk, hd, q⟩
  obtain ⟨u1, u2, rfl, r1, r2⟩ := vals2 r
  cases (show u1 = Value.ref a from r1)
  cases hcv _ r2
  have hat := (I.pin (a, oe) (List.mem_append.mpr (.inl List.mem_cons_self))).1
  obtain ⟨vs, hvs⟩ := hf
  have hx : ObjOk X.prog X.w H s.heap dd (.xd gs) := I.hok dd _ hd
  obtain ⟨mA, hns, hr⟩ := hx
  obtain ⟨od, ho, hl⟩ := lookIn_ns hns
  have J : PySem.W.InstAt s.heap a oe C (some od) := ⟨hat, hz.1, by unfold PySem.W.notCls; rw [hvs] <;> rfl, (by rw [hz.2]; exact ho)⟩
  exact PySem.W.kia_one (kit_err T) I.kIn J hk (fun z => nomatch z) fun tk' => ⟨.bl b, H, I.kept (t' := tk') (fun _ _ z => z), rfl, q⟩
theorem rd_isX {K : PySem.W.Frag} {mg : Str → Option Value} {a dd : Addr} {b : Bool} {d : Den} {v : V} {cv : Value} (hcv : ∀ u, RelV v u → u = cv) (hk : PySem.W.kitOne K (.ref C) cv = some b) {σ : L2.St} {H : Hp} {Q : VK} (q : rd K mg W0 (dXis a dd b d) σ H Q) :
    tCB (rIsX K C a dd) (tCons (rd K mg W0 d) (tCons (tC v) tNil)) σ H Q := by
  obtain ⟨ι, env, S, s, er, p⟩ := q
  refine ⟨ι, env, S, s, er, (Post.bind (Rel' := Rp K) p).mono ?_⟩
  rintro x H1 ⟨ι1, dx, S1, e1, s1, r1, p1⟩
  split at p1
  · split at p1
    · rename_i ha
      obtain ⟨rfl, rfl⟩ := ha
      cases r1 with
      | err hn hd rs => exact ⟨v, cv, b, _, rfl, hcv, hk, hd, p1.ret s1 (.bl _)⟩
    · exact p1.elim
  · exact p1.elim
/-- isinstance(e, C2), C2 an error class of the program's | a built-in one -/
theorem e_isX {a dd C2 : Addr} {oe : Obj} {pn : List (Addr × Obj)} {e : Expr} {d : Den} {x : Str} {p q : Pos} {b : Bool} (T : ErrC X.K X.mg c C ks) (hz : Zc (.ref C) (some dd) oe) (hf : ∃ vs, oe.data = .fields vs) (hm : X.mg "isinstance" = none) (hx : X.mg x = some (.ref C2)) (hk : PySem.W.kitOne X.K (.ref C) (.ref C2) = some b)
    (he : PE (X.suite a ((a, oe) :: pn)) e (rd X.K X.mg W0 d)) (hg : Gl X "isinstance" := by rfl) (hg2 : Gl X x := by rfl) (hd : (x == ("__debug__" : Str)) = false := by decide)
    (hs : starEach [e, .Name x q] X.env = (false, eval e X.env) :: starEach [.Name x q] X.env := by rfl) (hs2 : starEach [.Name x q] X.env = (false, eval (.Name x q) X.env) :: starEach [] X.env := by rfl) (hpl : (backTo pos (starEach [.Name x q] X.env)).any (·.1) = false := by rfl) :
    PE (X.suite a ((a, oe) :: pn)) (.Call (.Name "isinstance" p) [e, .Name x q] [] pos) (rd X.K X.mg W0 (dXis a dd b d)) :=
  PE.imp (pe_callB (X := X.suite a ((a, oe) :: pn)) (call_isX T hz hf) hg hm (by decide +kernel) (pa_cons he (pa_cons (pe_glob (v := .ref C2) hg2 hx rfl hd) pa_nil hs2) hs) (by decide) (by decide) hs hpl) fun σ H Q z => rd_isX (v := .ref C2) (cv := .ref C2) (fun _ z => z) hk z
theorem e_isXB {a dd : Addr} {T' : String} {oe : Obj} {pn : List (Addr × Obj)} {e : Expr} {d : Den} {x : Str} {p q : Pos} {b : Bool} (T : ErrC X.K X.mg c C ks) (hz : Zc (.ref C) (some dd) oe) (hf : ∃ vs, oe.data = .fields vs) (hm : X.mg "isinstance" = none) (hx : X.mg x = none) (hv : bootBuiltins x = some (.type T')) (hk : PySem.W.kitOne X.K (.ref C) (.type T') = some b)
    (he : PE (X.suite a ((a, oe) :: pn)) e (rd X.K X.mg W0 d)) (hg : Gl X "isinstance" := by rfl) (hg2 : Gl X x := by rfl) (hn : x ≠ "__name__" := by decide) (hd : (x == ("__debug__" : Str)) = false := by decide)
    (hs : starEach [e, .Name x q] X.env = (false, eval e X.env) :: starEach [.Name x q] X.env := by rfl) (hs2 : starEach [.Name x q] X.env = (false, eval (.Name x q) X.env) :: starEach [] X.env := by rfl) (hpl : (backTo pos (starEach [.Name x q] X.env)).any (·.1) = false := by rfl) :
    PE (X.suite a ((a, oe) :: pn)) (.Call (.Name "isinstance" p) [e, .Name x q] [] pos) (rd X.K X.mg W0 (dXis a dd b d)) :=
  PE.imp (pe_callB (X := X.suite a ((a, oe) :: pn)) (call_isX T hz hf) hg hm (by decide +kernel) (pa_cons he (pa_cons (pe_bltn (v := .ty T') hg2 hx hv rfl hn hd) pa_nil hs2) hs) (by decide) (by decide) hs hpl) fun σ H Q z => rd_isX (v := .ty T') (cv := .type T') (fun _ z => z) hk z
end
end
end Z
end

section
set_option Elab.async false
set_option linter.all false
set_option maxRecDepth 100000
set_option maxHeartbeats 1000000
namespace Z
noncomputable section
open PySem PySem.Spec PyProof.Rows L2

/-! ### defs that are called by place alone (a star parameter) -/
def spOfR (K : PySem.W.Frag) (mg : Str → Option Value) (f : FD) : Sp := fun vs H Q E => ∃ ι ds S, Sr K H ι S ∧ Rps K H ι vs ds ∧ Post K mg (Rp K) (fun c d _ H => E c d H) [] ι H (f ds S) Q
abbrev FnY (P : Program) (w : World) (K : PySem.W.Frag) (mg : Str → Option Value) (base : Heap) (k : Nat) (f : Addr) (F : FD) : Prop := FnR P w K mg base (L2N.CX P w) k f (spOfR K mg F)
def starF (n : Nat) (F : FD) : FD := fun ds S => if n ≤ ds.length ∧ Fit ds.length then F (ds.take n ++ [.tup (ds.drop n)]) S else .bad
section
variable {P : Program} {w : World} {K : PySem.W.Frag} {mg : Str → Option Value} {base : Heap}
theorem ub_un {fs : List Addr} {H H2 H' : Hp} {g g2 B g' : Heap} (un : Un fs [] H H2 g g2) (kp : ∀ b o, g.get? b = some o → g2.get? b = some o) (ub : UB fs H2 H' g2 B g') : UB fs H H' g B g' where
  keep b o q n hb :=
    ub.keep b o (kp b o q) (un.free b o q n List.not_mem_nil) hb
  slot b o q hb := ub.slot b o (kp b o q) hb
  free b o q n :=
    ub.free b o (kp b o q) (un.free b o q n List.not_mem_nil)
  there b o q hb := ub.there b o (kp b o q) hb
  tups b xs q := ub.tups b xs (un.tups b xs q)
  frzs b o xs q := ub.frzs b o xs (un.frzs b o xs q)
  tbls b ps q := by
    obtain ⟨n1, h1⟩ := un.tbls b ps q
    obtain ⟨n2, h2⟩ := ub.tbls b _ h1
    refine ⟨n1 ++ n2, ?_⟩
    rw [h2, Array.append_assoc]
theorem cxUpN {P : Program} {w : World} : StX.CXUp (L2N.CX P w) := fun outer s H s2 H2 E e s' un kp ho z => by
  obtain ⟨a, B, H', cls, d, ea, fl, hok, ub, na, os, ag, he⟩ := z
  exact ⟨a, B, H', cls, d, ea, fl, hok, ub_un un kp ub, na, os.trans ho, ag, he⟩
theorem fn_okY {x qual : Str} {st : Stmt} {f : Addr} {fd : FuncData} {N ps : List Str} {pv : Str} {k : Nat} {body : SDen} (F : Fun K x qual st f fd) (S : FnScope N (ps ++ [pv]) (defScope st)) (hN : ps.length + 1 ≤ N.length)
    (hbd : ∀ (kV doc pm : Value) (an : Option Addr) (cdv ct : Value) (us rest : List Value), us.length = ps.length → bindArgs (PySem.W.fnOf x qual (defArgs st) (defBody st) (defScope st) .none kV doc pm an cdv ct) ⟨us ++ rest, []⟩ = (newTuple rest >>= fun t => pure (ps.zip us ++ [(pv, t)])))
    (hb : ∀ (cdv : Value) (A : Around) (outer : List PySem.Env) (s : Shared) (H : Hp) (E : XK), Room k (A.deeper (envOfC qual (defScope st) s.heap.objs.size f cdv)) →
      L2N.Takes (cxOf (L2N.CX P w) P w K mg base N qual (defScope st) f cdv A outer s H E) (wE E) → SSs (cxOf (L2N.CX P w) P w K mg base N qual (defScope st) f cdv A outer s H E) (wE E) (defBody st) body) :
    FnY P w K mg base (k + 1) f (starF ps.length (fnF N.length body)) := by
  obtain ⟨oc, od, kV, doc, pm, an, cdv, ct, osl, rfl, lk, hcd⟩ := F.ex
  refine FnR.imp (StX.fn_star (sp := spOf K mg (ps.length + 1) (fnF N.length body)) lk hcd S cxUpN (hbd kV doc pm an cdv ct) fun A outer s H vs Q E hr h => ⟨_, hb cdv A outer s H E hr (L2N.takes_of rfl rfl rfl rfl), ?_⟩) fun vs H Q E h => ?_
  · obtain ⟨hl, ι, ds, S0, sr, r, p⟩ := h
    refine ⟨ι, _, S0, sr, er_start r (by rw [hl]; exact hN), ?_⟩
    unfold fnF at p
    show PostS K mg (wE E) ι H (body (ds.map some ++ List.replicate (N.length - ds.length) none) S0) _
    cases q : body (ds.map some ++ List.replicate (N.length - ds.length) none) S0 with
    | nx e S' => rw [q] at p; exact fun ι' H' σ' e1 s1 _ => p ι' H' .non e1 s1 .non
    | rt d S' => rw [q] at p; exact p
    | ex c fs e S' => rw [q] at p; exact fun ι' H' σ' dd C gs e1 s1 _ => p ι' H' dd C gs e1 s1
    | bk e S' => rw [q] at p; exact p.elim
    | ct e S' => rw [q] at p; exact p.elim
    | bad => rw [q] at p; exact p.elim
  · obtain ⟨ι, ds, S0, sr, r, p⟩ := h
    unfold starF at p
    split at p
    · rename_i hl
      refine ⟨vs.take ps.length, vs.drop ps.length, (List.take_append_drop _ _).symm, ?_, ?_, fun pa hp => ⟨?_, ι, _, S0, sr.new hp, ((r.take _).ext (Ext.new hp)).append (.cons (.tup (sr.out hp) upd_same ((r.drop ps.length).ext (Ext.new hp))) .nil), ?_⟩⟩
      · rw [List.length_take, r.length]; omega
      · rw [List.length_drop, r.length]; have := hl.2; unfold Fit at this; omega
      · rw [List.length_append, List.length_take, r.length]; simp; omega
      · exact p.ext (Ext.new hp) (sr.new hp)
    · exact p.elim
end
def dCallY (F : FD) (a : DenA) : Den := fun env S => (a env S).bind F
section
variable {X : Cx} {W : WX} {k : Nat} {f : Addr} {F : FD} {x : Str} {p pos : Pos} {e : Expr} {es : List Expr} {da : DenA}
theorem run_Y {pins : List (Addr × Obj)} {σ : L2.St} {H : Hp} {s : Shared} {Q : VK} {us : List Value} {vs : List V} (Fk : FnY X.prog X.w X.K X.mg X.base k f F) (hr : Room k X.A) (tk : L2N.Takes X W) (I : Inv X pins σ H s) (r : Vals vs us) (h : spOfR X.K X.mg F vs H Q (WE W σ)) :
    wpAny (model X.prog X.w) X.A (call (.ref f) us) (EP X pins σ Q) X.xe s := by
  refine wpAny_call (codeAny_mono (Fk X.A X.stack s H us vs Q (WE W σ) hr I.env0 r h) fun q s' hq => ?_)
  match q, hq with
  | .error e, hq => exact L2N.passAt tk σ pins H s e s' I hq
  | .ok (.ret u), hq => exact I.after hq
/-- f(e, ..) -/
theorem e_callY (Fk : FnY X.prog X.w X.K X.mg X.base k f F) (hr : Room k X.A) (hm : X.mg x = some (.ref f)) (hk : PySem.W.keepIn X.K (.ref f) = true) (tk : L2N.Takes X W) (ha : AA X W (e :: es) da) (hg : Gl X x := by rfl) (hd : (x == ("__debug__" : Str)) = false := by decide)
    (he : starEach (e :: es) X.env = (false, eval e X.env) :: starEach es X.env := by rfl) (hpl : (backTo pos (starEach es X.env)).any (·.1) = false := by rfl) : EE X W (.Call (.Name x p) (e :: es) [] pos) (dCallY F da) := by
  refine ⟨fun pins s σ H Q I h => wpAny_Call_Name_kw (ld_glob I hg hm ?_ hd)⟩
  obtain ⟨ι, env, S, s0, er, q⟩ := h
  have ha' := ha.run pos pins s σ H (fun vs H1 => spOfR X.K X.mg F vs H1 Q (WE W σ)) I ⟨ι, env, S, s0, er, (Post.bind (Rel' := Rps X.K) q).mono (by
    rintro xs H1 ⟨ι1, ds, S1, e1, s1, r1, p1⟩
    exact ⟨ι1, ds, S1, s1, r1, Post.wish (E := WE W σ) p1 fun _ _ _ h => h⟩)⟩
  exact PySem.W.callWith_K (h₀ := X.base) I.ok.mod.kin hk (thn ha' fun us s1 ⟨vs, H1, I1, r, q⟩ => ⟨I1.kIn, run_Y Fk hr tk I1 r q⟩) he hpl
/-- f() -/
theorem e_callY0 (Fk : FnY X.prog X.w X.K X.mg X.base k f F) (hr : Room k X.A) (hm : X.mg x = some (.ref f)) (hk : PySem.W.keepIn X.K (.ref f) = true) (tk : L2N.Takes X W) (hg : Gl X x := by rfl) (hd : (x == ("__debug__" : Str)) = false := by decide) :
    EE X W (.Call (.Name x p) [] [] pos) (dCallY F aNil) := by
  refine ⟨fun pins s σ H Q I h => wpAny_Call_Name_kw (ld_glob I hg hm ?_ hd)⟩
  obtain ⟨ι, env, S, s0, er, q⟩ := h
  exact PySem.W.callWith_K0 I.kIn hk (run_Y (us := []) Fk hr tk I .nil ⟨ι, [], S, s0, .nil, Post.wish (E := WE W σ) q fun _ _ _ h => h⟩)
end

/-! ### two targets at once -/
def sPar (i j : Nat) (a : DenA) : SDen := fun env S => (a env S).lift env fun ds S1 => match ds with
  | [x, y] => .nx ((env.set i (some x)).set j (some y)) S1
  | _ => .bad
section
variable {X : Cx} {W : WX} {a b : Expr} {da : DenA} {x y : Str} {i j : Nat} {px py pt pt2 pos : Pos} {kt k2 : Nat}
theorem rd_par {K : PySem.W.Frag} {mg : Str → Option Value} {Dn : Ends} {σ : L2.St} {H : Hp} (h : rdS K mg W (sPar i j da) Dn σ H) : tPar i j (rdA K mg W da) Dn σ H := by
  obtain ⟨ι, env, S, s, er, p⟩ := h
  refine ⟨ι, env, S, s, er, (PostS.lift (Rel := Rps K) p er).mono ?_⟩
  rintro vs H1 ⟨ι1, ds, S1, e1, s1, r1, p1⟩
  split at p1
  · obtain ⟨v, w, rfl, r, r2⟩ := rps2 r1
    exact ⟨v, w, rfl, p1.nx s1 (((er.ext e1).set r).set r2)⟩
  · exact p1.elim
end

/-! ### the law's end -/
/-- what is wanted of the law's def: called upon the script it hands back True -/
def spLaw (K : PySem.W.Frag) : Sp := fun vs H Q _ => ∃ (a : Addr) (ns : List Int), vs = [.ref a] ∧ ns.length ≤ 63 ∧ (∀ z ∈ ns, Builtin.Int.intBits z ≤ 1048576) ∧ Only H ∧ SqL K H a (ns.map V.int) ∧ ∀ H', Q (.bl true) H'
def Holds (F : FD) : Prop := ∀ ns : List Int, ns.length ≤ 63 → (∀ z ∈ ns, Builtin.Int.intBits z ≤ 1048576) → ∃ S', F [.frz (ns.map D.int)] [] = .ok (.bl true) S'
theorem law_sp {K : PySem.W.Frag} {mg : Str → Option Value} {F : FD} (hF : Holds F) (vs : List V) (H : Hp) (Q : VK) (E : XK) (h : spLaw K vs H Q E) : spOf K mg 1 F vs H Q E := by
  obtain ⟨a, ns, rfl, hl, hb, hO, hS, q⟩ := h
  obtain ⟨S', e⟩ := hF ns hl hb
  have rs : ∀ ns : List Int, Rps K H ⟨[], []⟩ (ns.map V.int) (ns.map D.int) := fun ns => by
    induction ns with
    | nil => exact .nil
    | cons n ns ih => exact .cons (.int n) ih
  have nh : ¬ (⟨[], []⟩ : Em).has a := fun z => by rcases z with z | z <;> cases z
  refine ⟨rfl, ⟨[], []⟩, [.frz (ns.map D.int)], [], ⟨rfl, List.nodup_nil, (fun b hb => nomatch hb), (fun n a c h => nomatch h)⟩, .cons ?_ .nil, ?_⟩
  · rcases hS with (h | ⟨o, h⟩) | h
    · rcases hO a with z | ⟨o, xs, z⟩
      · rw [z] at h; cases h
      · rw [z] at h; cases h
    · exact .frz nh h (rs ns)
    · exact .frzK h (rs ns)
  · rw [e]
    intro ι' H' v _ _ r
    cases r
    exact q H'
theorem walk_Z {l : PySem.W.OpenLaw} {q : Program} {loose : List Str} {XP : (Str → Option Value) → Heap → Prop} {YP : World → Heap → Prop} {d : DefRec} {K : Params → PySem.W.Frag} {k : Nat} (hn : l.most = some 63) (hdf : d.params.defaults = []) (hr : Room k callerA)
    (hY : ∀ (w : World) (h : Heap), YP w h → (K w.params).In h)
    (F : ∀ (w : World) (mg : Str → Option Value) (fa : Addr) (h : Heap), (K w.params).In h → h.Ns mainGlobals mg → mg d.name = some (.ref fa) →
      ∃ fd : FuncData, (∀ (s : Shared) (v : Value), BindsTo s fd ⟨[v], []⟩ [("script", v)]) ∧ ∀ base : Heap, (K w.params).In base → base.Ns mainGlobals mg → FnOk l.prog w (K w.params) mg base (L2N.CX l.prog w) k fa fd ["script"] (spLaw (K w.params))) :
    PySem.W.WalkO q loose XP YP l.row.toRowW d [] (fun f vs => PySem.call f vs) :=
  L2.walk_ofB (n := 63) (k := k) (x := "script") (CX := fun w => L2N.CX l.prog w) (sp := fun w => spLaw (K w.params)) hn (by decide) hdf hr hY F (fun w H a ns hl hb hO hS => ⟨a, ns, rfl, hl, hb, hO, hS, fun _ => rfl⟩) fun w H s e s' z => by
    obtain ⟨_, _, _, _, _, _, _, _, _, _, _, _, z⟩ := z
    exact z
end
end Z
end

section
set_option Elab.async false
set_option linter.all false
set_option maxRecDepth 100000
set_option maxHeartbeats 1000000
namespace Z
noncomputable section
open PySem PySem.Spec PyProof.Rows L2
/-- a body that was walked gives its promise -/
theorem fn_fin {K : PySem.W.Frag} {mg : Str → Option Value} {body : SDen} {N : List Str} {n : Nat} {vs : List V} {H : Hp} {Q : VK} {E : XK} (hN : n ≤ N.length) (h : spOf K mg n (fnF N.length body) vs H Q E) : rdS K mg (wE E) body { nx := fun _ H' => Q .non H', rt := Q } (L2.start N vs) H := by
  obtain ⟨hl, ι, ds, S0, sr, r, p⟩ := h
  refine ⟨ι, _, S0, sr, er_start r (by rw [hl]; exact hN), ?_⟩
  unfold fnF at p
  cases q : body (ds.map some ++ List.replicate (N.length - ds.length) none) S0 with
  | nx e S' => rw [q] at p; exact fun ι' H' σ' e1 s1 _ => p ι' H' .non e1 s1 .non
  | rt d S' => rw [q] at p; exact p
  | ex c fs e S' => rw [q] at p; exact fun ι' H' σ' dd C gs e1 s1 _ => p ι' H' dd C gs e1 s1
  | bk e S' => rw [q] at p; exact p.elim
  | ct e S' => rw [q] at p; exact p.elim
  | bad => rw [q] at p; exact p.elim
section
variable {P : Program} {w : World} {K : PySem.W.Frag} {mg : Str → Option Value} {base : Heap}
/-- as fn_ok, for a def with defaults -/
theorem fn_okD {x qual : Str} {st : Stmt} {f : Addr} {fd : FuncData} {N ps : List Str} {k : Nat} {body : SDen} {dvs : List V} {kws : List (Str × V)} (F : FunD K x qual (defArgs st) (defBody st) (defScope st) dvs kws f fd) (S : FnScope N ps (defScope st)) (hN : ps.length ≤ N.length)
    (hb : ∀ (cdv : Value) (A : Around) (outer : List PySem.Env) (s : Shared) (H : Hp) (E : XK), Room k (A.deeper (envOfC qual (defScope st) s.heap.objs.size f cdv)) →
      L2N.Takes (cxOf (L2N.CX P w) P w K mg base N qual (defScope st) f cdv A outer s H E) (wE E) → SSs (cxOf (L2N.CX P w) P w K mg base N qual (defScope st) f cdv A outer s H E) (wE E) (defBody st) body) :
    FnZ P w K mg base (k + 1) f fd ps (fnF N.length body) :=
  F.ok S (fun vs H Q E h => h.1) fun cdv A outer s H vs Q E hr h => ⟨_, hb cdv A outer s H E hr (L2N.takes_of rfl rfl rfl rfl), fn_fin hN h⟩
/-- a def that is never called -/
theorem fn_bad {f : Addr} {fd : FuncData} {ps : List Str} {k : Nat} : FnZ P w K mg base k f fd ps (fun _ _ => .bad) :=
  ⟨fun vs H Q E h => h.1, fun A outer s H args us vs Q E _ _ _ _ h => by
    obtain ⟨_, ι, ds, S, _, _, p⟩ := h
    exact p.elim⟩
end
/-- f(e, .., k = v, ..), which raises nothing -/
def noEx {α : Type} (r : R α) : R α := match r with
  | .ok a S => .ok a S
  | _ => .bad
def dCallK (n m : Nat) (F : FD) (a b : DenA) : Den := fun env S => (a env S).bind fun ds S1 => (b env S1).bind fun es S2 => if ds.length = n ∧ es.length = m then noEx (F (ds ++ es) S2) else .bad
section
variable {K : PySem.W.Frag} {x qual : Str} {params : Arguments} {body : List Stmt} {scope : Scope} {dvs : List V} {kws : List (Str × V)} {f : Addr} {fd : FuncData} {ps ks : List Str} {n : Nat}
/-- every parameter is written, the last ones by their names -/
theorem kbn_of (F : FunD K x qual params body scope dvs kws f fd) (hd : dvs ≠ [])
    (h : ∀ (T : Addr) (kV doc pm : Value) (an : Option Addr) (cdv ct : Value) (us ws its : List Value), us.length = n → ws.length = ks.length → its.length = dvs.length →
      ∃ k, bindArgs (PySem.W.fnOf x qual params body scope (.ref T) kV doc pm an cdv ct) ⟨us, ks.zip ws⟩ = seqItems? (.ref T) >>= k ∧ k (some its.toArray) = pure (ps.zip (us ++ ws))) : KBn K fd ps n ks (fun us ws => us ++ ws) (fun vs zs => vs ++ zs) := by
  obtain ⟨oc, od, dV, kV, doc, pm, an, cdv, ct, osl, rfl, lk, hcd, hD, hK⟩ := F.ex
  rcases hD with ⟨e, _⟩ | ⟨_, T, o, its, m, rfl, lT, oT, rT⟩
  · exact absurd e hd
  · refine ⟨fun s us ws X h1 h2 => ?_, fun r1 r2 => r1.append r2⟩
    obtain ⟨k, e1, e2⟩ := h T kV doc pm an cdv ct us ws its h1 h2 rT.length.symm
    exact BindsTo.of_looks fun M => by rw [e1]; exact looks_items X lT oT (.of_pure e2)
end
section
variable {X : Cx} {W : WX} {k n : Nat} {f : Addr} {fd : FuncData} {ps ks : List Str} {F : FD} {x : Str} {p pos : Pos} {e : Expr} {es : List Expr} {kws : List Keyword} {da db : DenA} {kpos : Pos} {nm : Option Str} {d : Den}
abbrev KK (X : Cx) (W : WX) (kws : List Keyword) (d : DenA) : Prop := PK X kws (rdA X.K X.mg W d)
theorem PK.imp {t t' : TA} (h : PK X kws t) (f : ∀ σ H Q, t' σ H Q → t σ H Q) : PK X kws t' := ⟨fun pos pins s σ H Q I q => h.run pos pins s σ H Q I (f σ H Q q)⟩
theorem k_nil : KK X W [] aNil := PK.imp pk_nil fun σ H Q h => by
  obtain ⟨ι, env, S, s, er, p⟩ := h
  exact p.ret s .nil
theorem k_cons (h : EE X W e d) (hr : KK X W kws da) : KK X W (⟨nm, e, kpos⟩ :: kws) (aCons d da) := PK.imp (pk_cons h hr) fun σ H Q h => by
  obtain ⟨ι, env, S, s, er, p⟩ := h
  refine ⟨ι, env, S, s, er, (Post.bind (Rel' := Rp X.K) p).mono ?_⟩
  rintro x H1 ⟨ι1, dx, S1, e1, s1, r1, p1⟩
  refine ⟨ι1, env, S1, s1, er.ext e1, (Post.bind (Rel' := Rps X.K) p1).mono ?_⟩
  rintro xs H2 ⟨ι2, dxs, S2, e2, s2, r2, p2⟩
  exact p2.ret s2 (.cons (r1.ext e2) r2)
theorem e_callK {m : Nat} (Fk : FnZ X.prog X.w X.K X.mg X.base k f fd ps F) (hr : Room k X.A) (hm : X.mg x = some (.ref f)) (hk : PySem.W.keepIn X.K (.ref f) = true) (hb : KBn X.K fd ps n ks (fun us ws => us ++ ws) (fun vs zs => vs ++ zs)) (ha : AA X W (e :: es) da) (hkw : KK X W kws db) (hm' : ks.length = m := by rfl) (hl : n + m = ps.length := by rfl) (hg : Gl X x := by rfl)
    (hall : (backToKw pos (keywordEach kws X.env)).all (·.1.isSome) = true := by rfl) (hks : (backToKw pos (keywordEach kws X.env)).filterMap (·.1) = ks := by rfl) (hdb : (x == ("__debug__" : Str)) = false := by decide) (he : starEach (e :: es) X.env = (false, eval e X.env) :: starEach es X.env := by rfl)
    (hpl : ((backTo pos (starEach (e :: es) X.env)).any (·.1) || (backToKw pos (keywordEach kws X.env)).any (·.1.isNone)) = false := by rfl) :
    EE X W (.Call (.Name x p) (e :: es) kws pos) (dCallK n m F da db) := by
  subst hm'
  exact PE.imp (pe_callN (E := E0) (g := fun us ws => us ++ ws) (gV := fun vs zs => vs ++ zs) Fk hr hg hm hk hb passN ha hkw hall hks hdb he hpl) fun σ H Q h => by
    obtain ⟨ι, env, S, s, er, p⟩ := h
    refine ⟨ι, env, S, s, er, (Post.bind (Rel' := Rps X.K) p).mono ?_⟩
    rintro xs H1 ⟨ι1, ds, S1, e1, s1, r1, p1⟩
    refine ⟨ι1, env, S1, s1, er.ext e1, (Post.bind (Rel' := Rps X.K) p1).mono ?_⟩
    rintro ys H2 ⟨ι2, es', S2, e2, s2, r2, p2⟩
    split at p2
    · rename_i hn
      refine ⟨by rw [r1.length]; exact hn.1, by rw [r2.length]; exact hn.2, by rw [List.length_append, r1.length, r2.length, hn.1, hn.2]; exact hl, ι2, _, S2, s2, (r1.ext e2).append r2, ?_⟩
      cases q : F (ds ++ es') S2 with
      | ok a S' => rw [q] at p2; exact p2
      | ex c fs S' => rw [q] at p2; exact p2.elim
      | bad => rw [q] at p2; exact p2.elim
    · exact p2.elim
end

section
variable {X : Cx} {W : WX} {a b : Expr} {da : DenA} {x y : Str} {i j : Nat} {px py pt pt2 pos : Pos}
theorem s_par {kt k2} (hc : X.calm = true) (hN : X.N.Nodup) (hij : i ≠ j) (ha : AA X W [a, b] da) (hi : X.N[i]? = some x := by rfl) (hj : X.N[j]? = some y := by rfl) (hx : X.env.scope.names.lookup x = some .local := by rfl) (hy : X.env.scope.names.lookup y = some .local := by rfl)
    (hw : swappedStores [.Tuple [.Name x px, .Name y py] kt pt] (.Tuple [a, b] k2 pt2) X.env = pure (some [x, y]) := by rfl) (hs : swapsWithSole [.Tuple [.Name x px, .Name y py] kt pt] (.Tuple [a, b] k2 pt2) pos.line X.env = pure false := by rfl) :
    SS X W (.Assign [.Tuple [.Name x px, .Name y py] kt pt] (.Tuple [a, b] k2 pt2) pos) (sPar i j da) := PS.imp (ps_par hc hN hi hj hij hx hy ha hw hs) fun Dn σ H h => rd_par h
end
end
end Z
end

section
set_option Elab.async false
set_option linter.all false
set_option maxRecDepth 100000
set_option maxHeartbeats 2000000
namespace PySem
open PySem PySem.Spec PySem.Calls PyProof.Rows
section
variable {prog : Program} {w : World} {A : Around} {E : Value → Shared → Prop} {s : Shared} {R : Result → Shared → Prop}
/-- list.__init__ of a list walked backwards -/
theorem zz_init_rev {it l S : Addr} {items : Array Value} (hh : A.handled = none) (hit : s.heap.IsRevIter it l ((items.size : Int) - 1)) (hl : s.heap.IsList l items) (hne : l ≠ it) (hn : items.size ≤ sizeLine)
    (hS : s.heap.get? S = some { cls := .type "list", data := .seq #[] }) (hSi : S ≠ it) (hSl : S ≠ l)
    (hR : ∀ (h' : Heap) (tk : Nat) (acc : Array Value) (c' : Nat), (∀ b o, b ≠ S → b ≠ it → s.heap.get? b = some o → h'.get? b = some o) → h'.get? S = some { cls := .type "list", dict := none, data := .seq acc c', slots := #[] } →
      ItemsOf (fun i v => items[items.size - 1 - i]? = some v) acc items.size → R (.ok (.ret .none)) { s with heap := h', toks := tk }) :
    wpAny (model prog w) A.in1 (Builtin.«list.__init__» ⟨[.ref S, .ref it], []⟩)
      (fun fin s' => match fin with | .done f => R (.ok f) s' | .again c' => c'.quiet = true ∧ codeAny (model prog w) A c' R s') (fun e s' => R (.error e) s') s := by
  have W := (Walks.listRev (prog := prog) (w := w) (A := A.in1) hh it l hne items).toS
  show wpAny _ A.in1 (do let old ← Builtin.List.listItems (.ref S); Builtin.List.listUpdate (.ref S) (fun _ => #[]); letGo old.toList.reverse; Builtin.List.listExtendWith (.ref S) (.ref it) .none) _ _ _
  refine wpAny_bind (?_ : wpAny _ _ (Builtin.List.listItems (.ref S)) _ _ _)
  unfold Builtin.List.listItems
  refine wpAny_bind (wpAny_seqItems hS rfl (wpAny_pure (?_ : wpAny _ A.in1 (updateSeq S (fun _ => #[]) >>= fun _ => letGo (#[] : Array Value).toList.reverse >>= fun _ => Builtin.List.listExtendWith (.ref S) (.ref it) .none) _ _ s)))
  refine wpAny_bind (wpAny_updateSeq hS rfl (wpAny_bind (wpAny_letGo ?_)))
  have g2 := Heap.get?_update_self (Obj.mapSeq (fun _ => (#[] : Array Value))) hS rfl
  have k2 : ∀ b o, b ≠ S → s.heap.get? b = some o → (s.heap.update S (Obj.mapSeq (fun _ => (#[] : Array Value)))).get? b = some o := fun b o hb e => (Heap.get?_update_other _ _ (Ne.symm hb)).trans e
  have hit2 : (s.heap.update S (Obj.mapSeq (fun _ => (#[] : Array Value)))).IsRevIter it l ((items.size : Int) - 1) := hit.at fun o e => k2 it o (Ne.symm hSi) e
  have hl2 : (s.heap.update S (Obj.mapSeq (fun _ => (#[] : Array Value)))).IsList l items := by
    obtain ⟨o, ho, r⟩ := hl
    exact ⟨o, k2 l o (Ne.symm hSl) ho, r⟩
  have nf : S ∉ [it, l] := by simp [hSi, hSl]
  have hT : ({ s with heap := s.heap.update S (Obj.mapSeq (fun _ => (#[] : Array Value))) } : Shared).TypeIs (.ref it) "list_reverseiterator" := Heap.IsRevIter.typeIs (s := { s with heap := s.heap.update S (Obj.mapSeq (fun _ => (#[] : Array Value))) }) hit2
  have n1 : Builtin.List.listSameRef (.ref S) (.ref it) = false := by simp [Builtin.List.listSameRef, hSi]
  unfold Builtin.List.listExtendWith
  refine wpAny_bind (wpAny_typeOf hT ?_)
  rw [if_neg (fun z => by rw [n1] at z; simp at z)]
  refine wpAny_bind (wpAny_pyIter_revIter (s := { s with heap := s.heap.update S (Obj.mapSeq (fun _ => (#[] : Array Value))) }) hit2 (wpAny_bind (wpAny_holding (?_ : wpAny _ _ (Builtin.List.listLengthHint (.ref it)) _ _ _))))
  unfold Builtin.List.listLengthHint
  refine wpAny_bind (wpAny_specialOf hT RT.nolen_lri (wpAny_bind (?_ : wpAny _ A.in1 (specialOf (Value.ref it) (Str.ofString "__length_hint__")) _ _ _)))
  refine wpAny_specialOf hT RT.hint_lri ?_
  generalize hid : ("list_reverseiterator.__length_hint__" : String) = id1
  wp_delta
  rw [show splitId id1 = some ("list_reverseiterator", "__length_hint__") from (by subst hid; decide +kernel)]
  subst hid
  refine wpAny_bind (wpAny_isInstance (b := true) hT (by rw [isSubtype_type]; kernel_rfl) (wpAny_pure ?_))
  rw [if_neg (by decide)]
  have z0 : ((items.size : Nat) : Int) - 1 - ((0 : Nat) : Int) = (items.size : Int) - 1 := by omega
  refine wpAny_pure ⟨plainId_quiet F.plain_extend_loop _, codeAny_extend_loopS W hn _ nf _ items.size 0 _ _ _ rfl (Nat.zero_le _) ⟨Nat.zero_le _, (by rw [z0]; exact hit2), hl2⟩ g2 (ItemsOf.nil _) fun s' acc' c' hm hS' hacc => ?_⟩
  rw [Moved.eq_with hm]
  exact hR s'.heap s'.toks acc' c' (fun b o hb hi e => hm.heap b o (fun z => by
    rcases List.mem_cons.mp z with z | z
    · exact hb z
    · exact hi (List.mem_singleton.mp z)) (k2 b o hb e)) hS' hacc
theorem zz_call_rev {it l : Addr} {items : Array Value} {Q : Value → Shared → Prop} (hh : A.handled = none) (hit : s.heap.IsRevIter it l ((items.size : Int) - 1)) (hl : s.heap.IsList l items) (hne : l ≠ it) (hn : items.size ≤ sizeLine)
    (hQ : ∀ (h' : Heap) (tk : Nat) (acc : Array Value) (c' : Nat), (∀ b o, b ≠ it → s.heap.get? b = some o → h'.get? b = some o) → h'.get? s.heap.objs.size = some { cls := .type "list", dict := none, data := .seq acc c', slots := #[] } →
      ItemsOf (fun i v => items[items.size - 1 - i]? = some v) acc items.size → Q (.ref s.heap.objs.size) { s with heap := h', toks := tk }) : wpAny (model prog w) A (call (.type "list") [.ref it]) Q E s := by
  obtain ⟨oi, hoi, _⟩ := id hit
  obtain ⟨ol, hol, _⟩ := id hl
  refine callType_codes (Q₁ := fun obj s₁ => obj = .ref s.heap.objs.size ∧ s₁ = { s with heap := s.heap.push { cls := .type "list", data := .seq #[] } })
    F.called_list (F.typeCall_list_1 _) F.entry_list_init (code_list_new _ ⟨rfl, rfl⟩) ?_
  rintro _ _ ⟨rfl, rfl⟩
  have hS : (s.heap.push { cls := .type "list", data := .seq #[] }).get? s.heap.objs.size = some { cls := .type "list", data := .seq #[] } := Heap.get?_push_size _ (by rfl)
  refine ⟨⟨_, hS, rfl⟩, F.args_list_init_2 _ _, zz_init_rev (A := A.in1) (s := { s with heap := s.heap.push { cls := .type "list", data := .seq #[] } }) hh (hit.at fun o e => Heap.get?_push_of_some _ e) (hl.push _) hne hn hS (Nat.ne_of_gt (Heap.lt_size hoi)) (Nat.ne_of_gt (Heap.lt_size hol)) fun h' tk acc c' k g i => ?_⟩
  exact ⟨rfl, hQ h' tk acc c' (fun b o hb e => k b o (Nat.ne_of_lt (Heap.lt_size e)) hb (Heap.get?_push_of_some _ e)) g i⟩
end
end PySem
namespace Z
open PySem PySem.Spec PyProof.Rows L2
def rRevL (K : PySem.W.Frag) (te : TE) : TE := fun σ H Q => te σ H fun v H1 => ∃ (a : Addr) (xs : List V), v = .ref a ∧ SqL K H1 a xs ∧ ∀ p, H1 p = none → Q (.ref p) (upd H1 p (.lst xs.reverse))
theorem pe_listRev {X : Cx} {e : Expr} {te : TE} {p p2 pos pos2 : Pos} (hc : X.calm = true) (hm : X.mg "list" = none) (hm2 : X.mg "reversed" = none) (he : PE X e te) (hg : Gl X "list") (hg2 : Gl X "reversed") (hs : starEach [e] X.env = (false, eval e X.env) :: starEach [] X.env)
    (hs2 : starEach [.Call (.Name "reversed" p2) [e] [] pos2] X.env = (false, eval (.Call (.Name "reversed" p2) [e] [] pos2) X.env) :: starEach [] X.env) : PE X (.Call (.Name "list" p) [.Call (.Name "reversed" p2) [e] [] pos2] [] pos) (rRevL X.K te) := by
  refine ⟨fun pins s σ H Q I h => Call_ (ld_blt I hg hm (show bootBuiltins "list" = some (.type "list") from by decide +kernel) (PyProof.Rows.callWith_type1 (args_cons (Call_ (ld_blt I hg2 hm2 PyProof.Rows.boot_reversed (PyProof.Rows.callWith_type1 (args_cons (thn (he.run pins s σ H _ I h) ?_) hs) hs rfl))) hs2) hs2 rfl))⟩
  rintro u s1 ⟨v, H1, I1, r1, a, xs, rfl, hq, q⟩
  cases (show u = Value.ref a from r1)
  obtain ⟨its, rv, pl, hz⟩ := I1.list hq
  refine args_nil (call_reversed_list pl.isList (args_nil ?_))
  obtain ⟨f0, f1, f2, f3, f4, f5⟩ := I1.fpOk (H' := H1) (b := s1.heap.objs.size) (Nat.le_refl _) (I1.hok.fresh (Nat.le_refl _))
  have I2 : Inv X pins σ H1 { s1 with heap := s1.heap.push (revObj a ((its.toArray.size : Int) - 1)) } := I1.kept (t' := s1.toks) fun b o e => Heap.get?_push_of_some _ e
  obtain ⟨ol, hol, _⟩ := id pl.isList
  refine zz_call_rev (s := { s1 with heap := s1.heap.push (revObj a ((its.toArray.size : Int) - 1)) }) (I1.ok.hd hc) ⟨_, Heap.get?_push_size _ rfl, rfl, rfl⟩ (pl.isList.push _) (Nat.ne_of_lt (Heap.lt_size hol)) (by rw [List.size_toArray, ← rv.length]; exact hz) fun h' tk acc c' hk g hi => ?_
  have hS : (s1.heap.push (revObj a ((its.toArray.size : Int) - 1))).objs.size = s1.heap.objs.size + 1 := by simp [Heap.push]
  have k1 : ∀ b u, s1.heap.get? b = some u → h'.get? b = some u := fun b u e => hk b u (Nat.ne_of_lt (Heap.lt_size e)) (Heap.get?_push_of_some _ e)
  have new : ObjOk X.prog X.w (upd H1 (s1.heap.push (revObj a ((its.toArray.size : Int) - 1))).objs.size (.lst xs.reverse)) h' (s1.heap.push (revObj a ((its.toArray.size : Int) - 1))).objs.size (.lst xs.reverse) :=
    ⟨by rw [List.length_reverse]; exact hz, acc.toList, c', RT.vals_rev rv hi, by rw [Array.toArray_toList]; exact g⟩
  exact ⟨.ref _, _, I1.laid (t' := tk) k1 (by rw [hS]; exact Nat.le_succ _) new, rfl, q _ (I1.hok.fresh (by rw [hS]; exact Nat.le_succ _))⟩
theorem e_revL0 {X : Cx} {W : WX} {e : Expr} {d : Den} {p p2 pos pos2 : Pos} (c : Bool) (hc : X.calm = true) (hm : X.mg "list" = none) (hm2 : X.mg "reversed" = none) (he : EE X W e d) (hg : Gl X "list") (hg2 : Gl X "reversed") (hs : starEach [e] X.env = (false, eval e X.env) :: starEach [] X.env)
    (hs2 : starEach [.Call (.Name "reversed" p2) [e] [] pos2] X.env = (false, eval (.Call (.Name "reversed" p2) [e] [] pos2) X.env) :: starEach [] X.env) {g : Den} (hd : g = fun env S => (d env S).bind fun x S1 => match lstOf S1 x with
      | some xs => mkL c xs.reverse S1
      | none => .bad) : EE X W (.Call (.Name "list" p) [.Call (.Name "reversed" p2) [e] [] pos2] [] pos) g := PE.imp (pe_listRev hc hm hm2 he hg hg2 hs hs2) fun σ H Q h => by
  subst hd
  obtain ⟨ι, env, S, s, er, p⟩ := h
  refine ⟨ι, env, S, s, er, (Post.bind (Rel' := Rp X.K) p).mono ?_⟩
  rintro x H1 ⟨ι1, dx, S1, e1, s1, r1, p1⟩
  split at p1
  · rename_i xs e4
    obtain ⟨a, vs, rfl, hs, r⟩ := lst_inv s1 r1 e4
    exact ⟨a, vs, rfl, hs, (p1.mkL s1 r.reverse).2⟩
  · exact p1.elim
end Z
end

section
set_option Elab.async false
set_option linter.all false
set_option maxRecDepth 100000
set_option maxHeartbeats 1000000
namespace Z
noncomputable section
open PySem PySem.Spec PyProof.Rows L2
theorem no1 {p : Str → Prop} {a : Str} (h : p a) : ∀ f ∈ [a], p f := fun f hf => by rw [List.mem_singleton.mp hf]; exact h
theorem no2 {p : Str → Prop} {a b : Str} (h : p a) (k : p b) : ∀ f ∈ [a, b], p f := fun f hf => by
  rcases List.mem_cons.mp hf with rfl | hf
  · exact h
  · rw [List.mem_singleton.mp hf]; exact k
theorem cl_of {K : PySem.W.Frag} {C : Addr} (h : PySem.W.hasDictIn K C = true) : (PySem.W.clsIn K C).isSome = true := by
  obtain ⟨cd, hc, _⟩ := PySem.W.any_some h
  rw [hc]; rfl
theorem kit_ref {K : PySem.W.Frag} {C E : Addr} {b : Bool} (hd : PySem.W.hasDictIn K E = true) (ty : PySem.W.typeIn K (.ref E) = some (.type "type")) (h : PySem.W.subIn K (.ref C) (.ref E) = some b) (hs : PySem.W.subIn K (.ref C) (.ref C) = some true) : PySem.W.kitOne K (.ref C) (.ref E) = some b := by
  unfold PySem.W.kitOne
  by_cases e : C = E
  · subst e
    rw [hs] at h; cases h
    simp
  · have e1 : (Value.ref C == Value.ref E) = false := by
      rw [beq_eq_false_iff_ne]; intro z; cases z; exact e rfl
    rw [e1, if_neg Bool.false_ne_true]
    unfold PySem.W.kitCls
    simp only [cl_of hd, ty]
    simpa using h
theorem kit_typ {K : PySem.W.Frag} {C : Addr} {b : Bool} {T : String} (hm : PySem.W.kitMeta T = true) (h : PySem.W.subIn K (.ref C) (.type T) = some b) : PySem.W.kitOne K (.ref C) (.type T) = some b := by
  unfold PySem.W.kitOne
  have e1 : (Value.ref C == Value.type T) = false := by
    rw [beq_eq_false_iff_ne]; intro z; cases z
  rw [e1, if_neg Bool.false_ne_true]
  unfold PySem.W.kitCls
  simp only [hm, if_true]
  exact h
/-! ### comparisons as tests -/
theorem rdT_B {K : PySem.W.Frag} {mg : Str → Option Value} {W : WX} {d : Den} {σ : L2.St} {H : Hp} {Q : Bool → Hp → Prop} (h : rdT K mg W (tB' d) σ H Q) : rd K mg W d σ H (fun x H' => ∃ k, x = .bl k ∧ Q k H') := by
  obtain ⟨ι, env, S, s, er, p⟩ := h
  refine ⟨ι, env, S, s, er, (Post.bind (Rel' := Rp K) p).mono ?_⟩
  rintro x H1 ⟨ι1, dx, S1, e1, s1, r1, p1⟩
  cases dx with
  | bl c => cases r1; exact ⟨c, rfl, p1.ret s1 rfl⟩
  | _ => exact p1.elim
section
variable {X : Cx} {W : WX} {a b c : Expr} {da db dc : Den} {pos pos' : Pos} {r r' : R2} {f g : D → D → Sto → R D} {j : Nat}
theorem rd_isN {K : PySem.W.Frag} {mg : Str → Option Value} {σ : L2.St} {H : Hp} {Q : VK} (h : rd K mg W (dIsN da) σ H Q) : tIsN (rd K mg W da) σ H Q := by
  obtain ⟨ι, env, S, s, er, p⟩ := h
  refine ⟨ι, env, S, s, er, (Post.bind (Rel' := Rp K) p).mono ?_⟩
  rintro x H1 ⟨ι1, dx, S1, e1, s1, r1, p1⟩
  rw [r1.isNon]; exact p1.ret s1 (.bl _)
theorem rd_notN {K : PySem.W.Frag} {mg : Str → Option Value} {σ : L2.St} {H : Hp} {Q : VK} (h : rd K mg W (dNotN da) σ H Q) : tNotN (rd K mg W da) σ H Q := by
  obtain ⟨ι, env, S, s, er, p⟩ := h
  refine ⟨ι, env, S, s, er, (Post.bind (Rel' := Rp K) p).mono ?_⟩
  rintro x H1 ⟨ι1, dx, S1, e1, s1, r1, p1⟩
  rw [r1.isNon]; exact p1.ret s1 (.bl _)
theorem sIsB {K : PySem.W.Frag} (k : Bool) {mg : Str → Option Value} {σ : L2.St} {H : Hp} {Q : VK} (h : rd K mg W (dIsB k da) σ H Q) : tOp (rIsBl k) (rd K mg W da) (tC (.bl k)) σ H Q := by
  obtain ⟨ι, env, S, s, er, p⟩ := h
  refine ⟨ι, env, S, s, er, (Post.bind (Rel' := Rp K) p).mono ?_⟩
  rintro x H1 ⟨ι1, dx, S1, e1, s1, r1, p1⟩
  refine ⟨rfl, ?_⟩
  rw [r1.isBl]; exact p1.ret s1 (.bl _)
theorem sNotB {K : PySem.W.Frag} (k : Bool) {mg : Str → Option Value} {σ : L2.St} {H : Hp} {Q : VK} (h : rd K mg W (dNotB k da) σ H Q) : tOp (rNotBl k) (rd K mg W da) (tC (.bl k)) σ H Q := by
  obtain ⟨ι, env, S, s, er, p⟩ := h
  refine ⟨ι, env, S, s, er, (Post.bind (Rel' := Rp K) p).mono ?_⟩
  rintro x H1 ⟨ι1, dx, S1, e1, s1, r1, p1⟩
  refine ⟨rfl, ?_⟩
  rw [r1.isBl]; exact p1.ret s1 (.bl _)
theorem t_cmp {op : CmpOp} (ho : OpR X (compareOp op) r) (hf : OpS X.K r f) (ha : EE X W a da) (hb : EE X W b db) (hm : behindInMarks op b = false := by first | exact nomark _ | rfl) : TT' X W (.Compare a [op] [b] pos) (tB' (bin f da db)) :=
  PT.imp (pt_cmpR ho ha hb hm) fun _ _ _ h => rd_bin hf (rdT_B h)
theorem t_isN (ha : EE X W a da) : TT' X W (.Compare a [.Is] [.Constant .none j pos'] pos) (tB' (dIsN da)) := PT.imp (pt_cmp (pc_isN ha)) fun _ _ _ h => rd_isN (rdT_B h)
theorem t_notN (ha : EE X W a da) : TT' X W (.Compare a [.IsNot] [.Constant .none j pos'] pos) (tB' (dNotN da)) := PT.imp (pt_cmp (pc_notN ha)) fun _ _ _ h => rd_notN (rdT_B h)
theorem t_isB {k : Bool} (ha : EE X W a da) : TT' X W (.Compare a [.Is] [.Constant (.bool k) j pos'] pos) (tB' (dIsB k da)) := PT.imp (pt_cmpR (op_isB k) ha pe_bl (nomark _)) fun _ _ _ h => sIsB k (rdT_B h)
theorem t_notB {k : Bool} (ha : EE X W a da) : TT' X W (.Compare a [.IsNot] [.Constant (.bool k) j pos'] pos) (tB' (dNotB k da)) := PT.imp (pt_cmpR (op_notB k) ha pe_bl (nomark _)) fun _ _ _ h => sNotB k (rdT_B h)
theorem t_chain {op op' : CmpOp} (ho : OpR X (compareOp op) r) (ho' : OpR X (compareOp op') r') (hf : OpS X.K r f) (hg : OpS X.K r' g) (ha : EE X W a da) (hb : EE X W b db) (hc : EE X W c dc)
    (hm : lastMarks [op, op'] [b, c] = false := by with_unfolding_all rfl) : TT' X W (.Compare a [op, op'] [b, c] pos) (tB' (chain f g da db dc)) := PT.imp (pt_chain ho ho' ha hb hc hm) fun _ _ _ h => rd_chain hf hg (rdT_B h)
end
def dRevL (c : Bool) (d : Den) : Den := fun env S => (d env S).bind fun x S1 => match lstOf S1 x with
  | some xs => mkL c xs.reverse S1
  | none => .bad
section
variable {X : Cx} {W : WX} {e : Expr} {d : Den} {p p2 pos pos2 : Pos}
theorem e_revL (c : Bool) (hm : X.mg "list" = none) (hm2 : X.mg "reversed" = none) (he : EE X W e d) (hc : X.calm = true := by rfl) (hg : Gl X "list" := by rfl) (hg2 : Gl X "reversed" := by rfl) (hs : starEach [e] X.env = (false, eval e X.env) :: starEach [] X.env := by rfl)
    (hs2 : starEach [.Call (.Name "reversed" p2) [e] [] pos2] X.env = (false, eval (.Call (.Name "reversed" p2) [e] [] pos2) X.env) :: starEach [] X.env := by rfl) : EE X W (.Call (.Name "list" p) [.Call (.Name "reversed" p2) [e] [] pos2] [] pos) (dRevL c d) := e_revL0 c hc hm hm2 he hg hg2 hs hs2 rfl
end
end
end Z
end

section
set_option Elab.async false
set_option linter.all false
set_option maxRecDepth 100000
namespace Z
/-! ### what is reckoned -/
section
variable {α β : Type} {a : α} {S : Sto} {c : PySem.Str} {fs : List (PySem.Str × D)} {e : Env} {p : Prop} [Decidable p] {d : D}
theorem F.then_nx {k : SDen} : (F.nx e S).then k = k e S := rfl
theorem F.then_rt {k : SDen} : (F.rt d S).then k = .rt d S := rfl
theorem F.then_bk {k : SDen} : (F.bk e S).then k = .bk e S := rfl
theorem F.then_ct {k : SDen} : (F.ct e S).then k = .ct e S := rfl
theorem F.then_ex {k : SDen} : (F.ex c fs e S).then k = .ex c fs e S := rfl
theorem F.then_bad {k : SDen} : F.bad.then k = .bad := rfl
theorem F.then_ite {f g : F} {k : SDen} : (if p then f else g).then k = if p then f.then k else g.then k := by split <;> rfl
theorem R.lift_ok {k : α → Sto → F} : (R.ok a S).lift e k = k a S := rfl
theorem R.lift_ex {k : α → Sto → F} : (R.ex c fs S : R α).lift e k = .ex c fs e S := rfl
theorem R.lift_bad {k : α → Sto → F} : (R.bad : R α).lift e k = .bad := rfl
theorem R.lift_ite {f g : R α} {k : α → Sto → F} : (if p then f else g).lift e k = if p then f.lift e k else g.lift e k := by split <;> rfl
theorem R.bind_ite {f g : R α} {k : α → Sto → R β} : (if p then f else g).bind k = if p then f.bind k else g.bind k := by split <;> rfl
def F.fin : F → R D
  | .nx _ S' => .ok .non S'
  | .rt d S' => .ok d S'
  | .ex c fs _ S' => .ex c fs S'
  | _ => .bad
theorem fnF_eq {n : Nat} {body : SDen} {ds : List D} : fnF n body ds S = (body (ds.map some ++ List.replicate (n - ds.length) none) S).fin := by
  unfold fnF F.fin
  cases body (ds.map some ++ List.replicate (n - ds.length) none) S <;> rfl
theorem F.fin_nx : (F.nx e S).fin = .ok .non S := rfl
theorem F.fin_rt : (F.rt d S).fin = .ok d S := rfl
theorem F.fin_ex : (F.ex c fs e S).fin = .ex c fs S := rfl
theorem F.fin_bad : F.bad.fin = .bad := rfl
theorem F.fin_ite {f g : F} : (if p then f else g).fin = if p then f.fin else g.fin := by split <;> rfl
theorem asB_bl {b : Bool} : asB (.bl b) S = .ok b S := rfl
theorem asI_int {i : Int} : asI (.int i) S = .ok i S := rfl
theorem arity_eq {n : Nat} {F : FD} {ds : List D} (h : ds.length = n) : arity n F ds S = F ds S := if_pos h
theorem forGo_nil {g : Sto → Prop} {t : Tg} {b : SDen} (h : g S) : forGo g t b [] e S = .nx e S := by rw [forGo]; exact if_pos h
/-- a loop by its invariant over what is left, where no turn leaves it -/
theorem forGo_inv {g : Sto → Prop} {t : Tg} {b : SDen} {xs : List D} (I : List D → Env → Sto → Prop) (h0 : ∀ S e, I xs e S → True)
    (hg : ∀ ys e S, I ys e S → g S) (hs : ∀ y ys e S, I (y :: ys) e S → ∃ e1 e2 S2, t.run y e = some e1 ∧ (b e1 S = .nx e2 S2 ∨ b e1 S = .ct e2 S2) ∧ I ys e2 S2) : ∀ {ys : List D} {e : Env} {S : Sto}, I ys e S → ∃ e' S', forGo g t b ys e S = .nx e' S' ∧ I [] e' S'
  | [], e, S, h => ⟨e, S, forGo_nil (hg _ _ _ h), h⟩
  | y :: ys, e, S, h => by
    obtain ⟨e1, e2, S2, h1, h2, h3⟩ := hs y ys e S h
    obtain ⟨e', S', h4, h5⟩ := forGo_inv (xs := xs) I h0 hg hs h3
    refine ⟨e', S', ?_, h5⟩
    rw [forGo, if_pos (hg _ _ _ h), h1]
    rcases h2 with h2 | h2
    · simp only [h2]; exact h4
    · simp only [h2]; exact h4
end
theorem sz_lt {n : Nat} (h : n ≤ 1000) : FitS n = True := eq_true (L2.small1000 h)
theorem sz_le {n : Nat} (h : n ≤ 1000) : Fit n = True := eq_true (Nat.le_of_lt (L2.small1000 h))
/-- a comprehension whose turns leave the store as it is -/
theorem lcGo_map {t : Tg} {c : DenT} {elt : Den} {env : Env} {S : Sto} {g : Sto → Prop} (hg : g S) (f : D → D) : ∀ (xs acc : List D), acc.length + xs.length ≤ 1000 →
    (∀ x ∈ xs, ∃ e, t.run x env = some e ∧ c e S = .ok true S ∧ elt e S = .ok (f x) S) → lcGo g t c elt env xs acc S = .ok (acc ++ xs.map f) S
  | [], acc, _, _ => by rw [lcGo, if_pos hg, List.map_nil, List.append_nil]
  | x :: xs, acc, hl, h => by
    obtain ⟨e, h1, h2, h3⟩ := h x List.mem_cons_self
    rw [lcGo, if_pos hg, h1]
    simp only [h2, h3, if_true]
    rw [if_pos (of_eq_true (sz_lt (by simp only [List.length_cons] at hl; omega))), lcGo_map hg f xs (acc ++ [f x]) (by simp only [List.length_append, List.length_cons, List.length_nil] at hl ⊢; omega) fun y hy => h y (List.mem_cons_of_mem _ hy)]
    simp
theorem bools_rep (n : Nat) : boolsOf (List.replicate n (.bl true)) = some (List.replicate n true) := by
  induction n with
  | zero => rfl
  | succ n ih => rw [List.replicate_succ, boolsOf, ih]; rfl
theorem rngD_len (lo : Int) (n : Nat) : (rngD lo n).length = n := by simp [rngD]
theorem mem_rngD {lo : Int} {n : Nat} {x : D} (h : x ∈ rngD lo n) : ∃ i : Nat, i < n ∧ x = .int (lo + i) := by
  unfold rngD at h
  obtain ⟨i, hi, e⟩ := List.mem_map.mp h
  exact ⟨i, List.mem_range.mp hi, e.symm⟩
/-- data of None, truths, ints, texts and tuples, below a depth -/
def flatD' : Nat → D → Bool
  | _, .non => true
  | _, .bl _ => true
  | _, .int _ => true
  | _, .str _ => true
  | 0, .tup _ => false
  | n + 1, .tup xs => decide (xs.length ≤ 1000) && xs.all (flatD' n)
  | _, _ => false
theorem rok {n : Nat} (hn : n ≤ 1000) : Rok (n : Int) := by unfold Rok big; omega
theorem fRng1_eq {i : Int} {n : Nat} {S : Sto} (h : i = (n : Int)) (hn : n ≤ 1000) : fRng1 [.int i] S = .ok (rngD 0 n, fun _ => True) S := by
  subst h
  show (if Rok (n : Int) then R.ok (rngD 0 (n : Int).toNat, fun _ => True) S else .bad) = _
  rw [if_pos (rok hn), Int.toNat_natCast]
/-! ### sizes -/
/-- below 2 ^ k -/
def sm (k : Nat) (i : Int) : Prop := i.natAbs < 2 ^ k
section
variable {i j : Int} {a b : Nat}
theorem sm.mono (h : sm a i) (hb : a ≤ b) : sm b i := Nat.lt_of_lt_of_le h (Nat.pow_le_pow_right (by decide) hb)
theorem sm.mul (h : sm a i) (k : sm b j) : sm (a + b) (i * j) := by
  unfold sm at *
  rw [Int.natAbs_mul, Nat.pow_add]
  exact Nat.mul_lt_mul'' h k
theorem sm.add (h : sm a i) (k : sm a j) : sm (a + 1) (i + j) := by
  unfold sm at *
  rw [Nat.pow_succ]
  have := Int.natAbs_add_le i j
  omega
theorem sm.sub (h : sm a i) (k : sm a j) : sm (a + 1) (i - j) := by
  unfold sm at *
  rw [Nat.pow_succ]
  have := Int.natAbs_sub_le i j
  omega
theorem sm.ok (h : sm a i) (k : sm b j) (hs : a + b < 1000000) : MulOk i j := by
  have h' : sm (a + 1) i := h.mono (Nat.le_succ _)
  by_cases hb : b = 0
  · subst hb
    refine .inl (.inr ?_)
    unfold sm at k
    have : j = 0 := by
      have : j.natAbs < 1 := k
      omega
    subst this
    decide
  by_cases ha : a = 0
  · subst ha
    refine .inl (.inl ?_)
    unfold sm at h
    have : i = 0 := by
      have : i.natAbs < 1 := h
      omega
    subst this
    decide
  exact .inr (L2.wide_mul h k (by omega) (by omega) (by omega))
theorem sm.div (h : sm a i) (h0 : 0 < i) (ha : a ≤ 9000) : DivOk i := by
  by_cases hz : a = 0
  · subst hz
    unfold sm at h
    have : i.natAbs < 1 := h
    omega
  exact ⟨h0, Nat.lt_of_lt_of_le (PySem.Flt.log2_lt_of (by omega) h) ha⟩
theorem sm.le {k : Nat} (h : sm k j) (h0 : 0 ≤ i) (hi : i ≤ j) : sm k i := by
  unfold sm at *; omega
end
end Z
end

section
set_option Elab.async false
set_option linter.all false
set_option maxRecDepth 100000
set_option maxHeartbeats 1000000
namespace Z
noncomputable section
open PySem PySem.Spec PyProof.Rows L2
/-! ### + of ints, texts, tuples and lists -/
def fPlus (x y : D) (S : Sto) : R D := match x, y with
  | .int i, .int j => .ok (.int (i + j)) S
  | .str i, .str j => if Fit (i.length + j.length) then .ok (.str (i ++ j)) S else .bad
  | .tup xs, .tup ys => if Fit (xs.length + ys.length) then .ok (.tup (xs ++ ys)) S else .bad
  | x, y => match ownOf S x, ownOf S y with
    | some xs, some ys => mkL false (xs ++ ys) S
    | _, _ => .bad
def rPlus (K : PySem.W.Frag) : R2 := fun x y H Q => (rI0 fun i j => .int (i + j)) x y H Q ∨ (∃ i j, x = .str i ∧ y = .str j ∧ i.length + j.length ≤ sizeLine ∧ Q (.str (i ++ j)) H) ∨ rCatA K x y H Q ∨ rCat x y H Q
theorem oPlus {X : Cx} : OpR X (binaryOp .Add) (rPlus X.K) := op_add.or (op_add_str.or (op_catA.or op_cat))
section
variable {K : PySem.W.Frag}
theorem Rps.app {H : Hp} {ι : Em} : ∀ {vs ws : List V} {ds es : List D}, Rps K H ι vs ds → Rps K H ι ws es → Rps K H ι (vs ++ ws) (ds ++ es)
  | _, _, _, _, .nil, h => h
  | _, _, _, _, .cons r rs, h => .cons r (Rps.app rs h)
theorem sPlus : OpS K (rPlus K) fPlus := by
  intro mg W σ ι H S x y dx dy Q s rx ry p
  unfold fPlus at p
  split at p
  · obtain ⟨rfl, rfl⟩ := int2 rx ry
    exact .inl ⟨_, _, rfl, rfl, p.ret s (.int _)⟩
  · rename_i i j
    split at p
    · rename_i hl
      cases rx; cases ry
      exact .inr (.inl ⟨_, _, rfl, rfl, hl, p.ret s (.str _)⟩)
    · exact p.elim
  · rename_i xs ys
    split at p
    · rename_i hl
      obtain ⟨a, vs, rfl, h1, h2⟩ := rx.tup_inv
      obtain ⟨b, ws, rfl, k1, k2⟩ := ry.tup_inv
      refine .inr (.inr (.inl ⟨a, b, vs, ws, rfl, rfl, h1, k1, by rw [h2.length, k2.length]; exact hl, fun e => ?_, fun _ e => ?_, fun _ _ q hq => ?_⟩))
      · subst e
        cases h2
        exact p.ret s (by rw [List.nil_append]; exact ry)
      · subst e
        cases k2
        exact p.ret s (by rw [List.append_nil]; exact rx)
      · exact p _ _ _ (Ext.new hq) (s.new hq) (.tup (s.out hq) upd_same ((h2.app k2).ext (Ext.new hq)))
    · exact p.elim
  · split at p
    · rename_i xs ys e1 e2
      obtain ⟨a, vs, rfl, h1, h2⟩ := own_inv s rx e1
      obtain ⟨b, ws, rfl, k1, k2⟩ := own_inv s ry e2
      have q := p.mkL s (h2.app k2)
      exact .inr (.inr (.inr ⟨a, b, vs, ws, rfl, rfl, h1, k1, by rw [← List.length_append]; exact q.1, q.2⟩))
    · exact p.elim
/-! ### methods of texts -/
def fPart (x : D) (ys : List D) (S : Sto) : R D := match x, ys with
  | .str a, [.str b] => if (b.length == 0) = false ∧ Fit a.length then .ok (.tup [.str (Txt.partition a b).1, .str (Txt.partition a b).2.1, .str (Txt.partition a b).2.2]) S else .bad
  | _, _ => .bad
def fStarts (x : D) (ys : List D) (S : Sto) : R D := match x, ys with
  | .str a, [.str b] => .ok (.bl (Txt.startswith a b)) S
  | _, _ => .bad
def fFind (x : D) (ys : List D) (S : Sto) : R D := match x, ys with
  | .str a, [.str b] => .ok (.int (Txt.find a b)) S
  | _, _ => .bad
def fIsdig (x : D) (ys : List D) (S : Sto) : R D := match x, ys with
  | .str a, [] => .ok (.bl (Txt.isdigit a)) S
  | _, _ => .bad
def fIsasc (x : D) (ys : List D) (S : Sto) : R D := match x, ys with
  | .str a, [] => .ok (.bl (Txt.isascii a)) S
  | _, _ => .bad
theorem sPart : MzS K (fun x xs H Q => ∃ a b, x = .str a ∧ xs = [.str b] ∧ (b.length == 0) = false ∧ a.length ≤ sizeLine ∧ ∀ p, H p = none → Q (.ref p) (upd H p (.tup [.str (Txt.partition a b).1, .str (Txt.partition a b).2.1, .str (Txt.partition a b).2.2]))) fPart := by
  intro mg W σ ι H S x dx ys dys Q s r rs p
  unfold fPart at p
  split at p
  · split at p
    · rename_i h
      obtain ⟨u, rfl, ru⟩ := rps1 rs
      cases r; cases ru
      refine ⟨_, _, rfl, rfl, h.1, h.2, fun q hq => ?_⟩
      exact p _ _ _ (Ext.new hq) (s.new hq) (.tup (s.out hq) upd_same (.cons (.str _) (.cons (.str _) (.cons (.str _) .nil))))
    · exact p.elim
  · exact p.elim
theorem sStarts : MzS K (fun x xs H Q => ∃ a b, x = .str a ∧ xs = [.str b] ∧ Q (.bl (Txt.startswith a b)) H) fStarts := by
  intro mg W σ ι H S x dx ys dys Q s r rs p
  unfold fStarts at p
  split at p
  · obtain ⟨u, rfl, ru⟩ := rps1 rs
    cases r; cases ru
    exact ⟨_, _, rfl, rfl, p.ret s (.bl _)⟩
  · exact p.elim
theorem sFind : MzS K (fun x xs H Q => ∃ a b, x = .str a ∧ xs = [.str b] ∧ Q (.int (Txt.find a b)) H) fFind := by
  intro mg W σ ι H S x dx ys dys Q s r rs p
  unfold fFind at p
  split at p
  · obtain ⟨u, rfl, ru⟩ := rps1 rs
    cases r; cases ru
    exact ⟨_, _, rfl, rfl, p.ret s (.int _)⟩
  · exact p.elim
theorem sIsdig : MzS K (fun x xs H Q => ∃ a, x = .str a ∧ xs = [] ∧ True ∧ Q (.bl (Txt.isdigit a)) H) fIsdig := by
  intro mg W σ ι H S x dx ys dys Q s r rs p
  unfold fIsdig at p
  split at p
  · cases r; cases rs
    exact ⟨_, rfl, rfl, trivial, p.ret s (.bl _)⟩
  · exact p.elim
theorem sIsasc : MzS K (fun x xs H Q => ∃ a, x = .str a ∧ xs = [] ∧ True ∧ Q (.bl (Txt.isascii a)) H) fIsasc := by
  intro mg W σ ι H S x dx ys dys Q s r rs p
  unfold fIsasc at p
  split at p
  · cases r; cases rs
    exact ⟨_, rfl, rfl, trivial, p.ret s (.bl _)⟩
  · exact p.elim
/-! ### str(n), int(text) -/
def LogOk (i : Int) : Prop := i.natAbs.log2 < 1920
noncomputable instance (i : Int) : Decidable (LogOk i) := Classical.propDecidable _
def fStr (xs : List D) (S : Sto) : R D := match xs with
  | [.int i] => if LogOk i then .ok (.str (toString i)) S else .bad
  | [.str a] => .ok (.str a) S
  | _ => .bad
def fIntT (xs : List D) (S : Sto) : R D := match xs with
  | [.int i] => .ok (.int i) S
  | [.bl b] => .ok (.int (if b then 1 else 0)) S
  | [.str a] => match PySem.intText? a with
    | some n => if a.length ≤ 640 then .ok (.int n) S else .bad
    | none => .bad
  | _ => .bad
theorem callr_or {X : Cx} {f : Value} {r r' : List V → Hp → VK → Prop} (h : CallR X f r) (h' : CallR X f r') : CallR X f (fun xs H Q => r xs H Q ∨ r' xs H Q) := fun pins s σ H xs us Q I rs q => by
  rcases q with q | q
  · exact h pins s σ H xs us Q I rs q
  · exact h' pins s σ H xs us Q I rs q
def rStr (xs : List V) (H : Hp) (Q : VK) : Prop := (∃ i, xs = [.int i] ∧ i.natAbs.log2 < 1920 ∧ Q (.str (toString i)) H) ∨ (∃ a, xs = [.str a] ∧ Q (.str a) H)
theorem cr_str {X : Cx} : CallR X (.type "str") rStr := callr_or call_str_int SkE.call_str_str
theorem sStr : CbS K rStr fStr := by
  intro mg W σ ι H S xs ds Q s r p
  unfold fStr at p
  split at p
  · split at p
    · rename_i h
      obtain ⟨x, rfl, r1⟩ := rps1 r
      cases r1; exact .inl ⟨_, rfl, h, p.ret s (.str _)⟩
    · exact p.elim
  · obtain ⟨x, rfl, r1⟩ := rps1 r
    cases r1; exact .inr ⟨_, rfl, p.ret s (.str _)⟩
  · exact p.elim
def rIntT (xs : List V) (H : Hp) (Q : VK) : Prop := ((∃ i, xs = [.int i] ∧ Q (.int i) H) ∨ ∃ k, xs = [.bl k] ∧ Q (.int (if k then 1 else 0)) H) ∨ (∃ a n, xs = [.str a] ∧ PySem.intText? a = some n ∧ a.length ≤ 640 ∧ Q (.int n) H)
theorem cr_intT {X : Cx} : CallR X (.type "int") rIntT := callr_or call_int1 call_int_str
theorem sIntT : CbS K rIntT fIntT := by
  intro mg W σ ι H S xs ds Q s r p
  unfold fIntT at p
  split at p
  · obtain ⟨x, rfl, r1⟩ := rps1 r
    cases r1; exact .inl (.inl ⟨_, rfl, p.ret s (.int _)⟩)
  · obtain ⟨x, rfl, r1⟩ := rps1 r
    cases r1; exact .inl (.inr ⟨_, rfl, p.ret s (.int _)⟩)
  · split at p
    · rename_i n e
      split at p
      · rename_i h
        obtain ⟨x, rfl, r1⟩ := rps1 r
        cases r1; exact .inr ⟨_, n, rfl, e, h, p.ret s (.int _)⟩
      · exact p.elim
    · exact p.elim
  · exact p.elim
end
/-! ### f-strings -/
def fFmt (x : D) (S : Sto) : R D := match x with
  | .str y => if Fit y.length then .ok (.str y) S else .bad
  | .int i => if LogOk i then .ok (.str (toString i)) S else .bad
  | _ => .bad
def dFmt (d : Den) : Den := fun env S => (d env S).bind fFmt
def dJs : List Den → Str → Den
  | [], acc => fun _ S => .ok (.str acc) S
  | d :: ds, acc => fun env S => (d env S).bind fun x S1 => match x with
    | .str y => if Fit (acc ++ y).length then dJs ds (acc ++ y) env S1 else .bad
    | _ => .bad
section
variable {X : Cx} {W : WX} {e : Expr} {es : List Expr} {d : Den} {ds : List Den} {pos : Pos}
theorem e_fmt (h : EE X W e d) : EE X W (.FormattedValue e (-1) none pos) (dFmt d) := PE.imp (pe_fmt h) fun σ H Q h => by
  obtain ⟨ι, env, S, s, er, p⟩ := h
  refine ⟨ι, env, S, s, er, (Post.bind (Rel' := Rp X.K) p).mono ?_⟩
  rintro x H1 ⟨ι1, dx, S1, e1, s1, r1, p1⟩
  unfold fFmt at p1
  split at p1
  · split at p1
    · rename_i hl
      cases r1; exact .inl ⟨_, rfl, hl, p1.ret s1 (.str _)⟩
    · exact p1.elim
  · split at p1
    · rename_i hl
      cases r1; exact .inr ⟨_, rfl, hl, p1.ret s1 (.str _)⟩
    · exact p1.elim
  · exact p1.elim
abbrev JJ (X : Cx) (W : WX) (es : List Expr) (ds : List Den) : Prop := PJ X es (ds.map (rd X.K X.mg W))
theorem j_nil : JJ X W [] [] := .nil
theorem j_cons (h : EE X W e d) (r : JJ X W es ds) : JJ X W (e :: es) (d :: ds) := .cons h r
theorem tJs_of {K : PySem.W.Frag} {mg : Str → Option Value} {σ : L2.St} {Q : VK} : ∀ (ds : List Den) (acc : Str) (H : Hp), rd K mg W (dJs ds acc) σ H Q → tJs (ds.map (rd K mg W)) acc σ H fun out H1 => Q (.str out) H1
  | [], acc, H, h => by
    obtain ⟨ι, env, S, s, er, p⟩ := h
    exact p.ret s (.str _)
  | d :: ds, acc, H, h => by
    obtain ⟨ι, env, S, s, er, p⟩ := h
    refine ⟨ι, env, S, s, er, (Post.bind (Rel' := Rp K) p).mono ?_⟩
    rintro x H1 ⟨ι1, dx, S1, e1, s1, r1, p1⟩
    split at p1
    · rename_i y
      split at p1
      · rename_i hl
        cases r1
        exact ⟨_, rfl, hl, tJs_of ds (acc ++ y) H1 ⟨ι1, env, S1, s1, er.ext e1, p1⟩⟩
      · exact p1.elim
    · exact p1.elim
theorem e_joined {v1 v2 : Expr} {rest : List Expr} (h : JJ X W (v1 :: v2 :: rest) ds) : EE X W (.JoinedStr (v1 :: v2 :: rest) pos) (dJs ds Str.empty) := PE.imp (pe_joined h) fun σ H Q h => tJs_of ds Str.empty H h
theorem e_joined1 (h : EE X W e d) : EE X W (.JoinedStr [e] pos) d := pe_joined1 h
end
/-! ### walking a text, a list or a tuple -/
def sgn (c : Nat) : D := .str ⟨#[c]⟩
def asAny (x : D) (S : Sto) : R (List D × (Sto → Prop)) := match x with
  | .str z => .ok (z.cps.toList.map sgn, fun _ => True) S
  | x => asSeq x S
def iAny (d : Den) : DenI := fun env S => (d env S).bind asAny
section
variable {X : Cx} {W : WX} {tg l : Expr} {tl : Den}
theorem txt_ok {K : PySem.W.Frag} {z : Str} {ι : Em} {H : Hp} : ItOk K (Its z) (z.cps.toList.map sgn) (fun _ => True) ι H := by
  refine ⟨fun ι2 H2 S2 i x e2 s2 _ hx => ?_, fun ι2 H2 S2 _ _ _ => by show z.cps.size ≤ _; simp⟩
  have hi : i < z.cps.size := by
    have := (List.getElem?_eq_some_iff.mp hx).1
    simpa using this
  refine ⟨hi, fun v H3 y => ?_⟩
  obtain ⟨rfl, c, hc, rfl⟩ := y
  refine ⟨Ext.refl, s2, ?_⟩
  rw [List.getElem?_map, Array.getElem?_toList, hc] at hx
  cases hx
  exact .str _
theorem pi_or {t t' : TI} (h : PI X tg l t) (h' : PI X tg l t') : PI X tg l (fun σ H R => t σ H R ∨ t' σ H R) := ⟨fun pins s σ H R I q => by
  rcases q with q | q
  · exact h.run pins s σ H R I q
  · exact h'.run pins s σ H R I q⟩
def iTxt (d : Den) : DenI := fun env S => (d env S).bind fun x S1 => match x with
  | .str z => .ok (z.cps.toList.map sgn, fun _ => True) S1
  | _ => .bad
theorem i_txt (hl : EE X W l tl) : II X W tg l (iTxt tl) := PI.imp (pi_str hl) fun σ H R h => by
  obtain ⟨ι, env, S, s, er, p⟩ := h
  refine ⟨ι, env, S, s, er, (Post.bind (Rel' := Rp X.K) p).mono ?_⟩
  rintro x H1 ⟨ι1, dx, S1, e1, s1, r1, p1⟩
  split at p1
  · cases r1
    exact ⟨_, rfl, p1 ι1 H1 _ Ext.refl s1 txt_ok⟩
  · exact p1.elim
theorem i_any (hl : EE X W l tl) : II X W tg l (iAny tl) := PI.imp (pi_or (i_txt hl) (i_seq hl)) fun σ H R h => by
  obtain ⟨ι, env, S, s, er, p⟩ := h
  unfold iAny at p
  cases e : tl env S with
  | ok x S1 =>
    rw [e] at p
    cases x with
    | str z => exact .inl ⟨ι, env, S, s, er, by unfold iTxt; rw [e]; exact p⟩
    | _ => exact .inr ⟨ι, env, S, s, er, by unfold iSeq; rw [e]; exact p⟩
  | ex c fs S1 => exact .inr ⟨ι, env, S, s, er, by unfold iSeq; rw [e]; rw [e] at p; exact p⟩
  | bad => exact .inr ⟨ι, env, S, s, er, by unfold iSeq; rw [e]; rw [e] at p; exact p⟩
end
/-! ### in: an item of a list or tuple, a sign of a text -/
def fInT (neg : Bool) (x y : D) (S : Sto) : R D := match y with
  | .str z => match x with
    | .str w => match w.cps.toList with
      | [c] => .ok (.bl (if neg then !decide (c ∈ z.cps.toList) else decide (c ∈ z.cps.toList))) S
      | _ => .bad
    | _ => .bad
  | y => fIn neg x y S
def rInT (K : PySem.W.Frag) (neg : Bool) : R2 := fun x y H Q => rIn K neg x y H Q ∨ (∃ (c : Nat) (z : Str), x = .str ⟨#[c]⟩ ∧ y = .str z ∧ Q (.bl (if neg then !decide (c ∈ z.cps.toList) else decide (c ∈ z.cps.toList))) H)
theorem oInT {X : Cx} : OpR X (compareOp .In) (rInT X.K false) := op_in_seq.or op_in_sign
theorem oNotInT {X : Cx} : OpR X (compareOp .NotIn) (rInT X.K true) := op_notIn_seq.or op_notIn_sign
theorem sInT {K : PySem.W.Frag} {neg : Bool} : OpS K (rInT K neg) (fInT neg) := by
  intro mg W σ ι H S x y dx dy Q s rx ry p
  unfold fInT at p
  split at p
  · split at p
    · rename_i w
      split at p
      · rename_i c hc
        cases rx; cases ry
        have hw : w = ⟨#[c]⟩ := by
          cases w with | mk a => cases a with | mk l => simp only at hc; rw [hc]
        exact .inr ⟨c, _, by rw [hw], rfl, p.ret s (.bl _)⟩
      · exact p.elim
    · exact p.elim
  · exact .inl (sIn mg W σ ι H S x y _ _ Q s rx ry p)
/-! ### a text times a number -/
def rMulS : R2 := fun x y H Q => ∃ (a : Str) (k : Int), x = .str a ∧ y = .int k ∧ 2 ≤ k ∧ k ≤ 10000 ∧ 1 ≤ a.length ∧ a.length ≤ 1000 ∧ Q (.str ⟨(List.replicate k.toNat a.cps).foldl (· ++ ·) #[]⟩) H
theorem rep_size (a : Array Nat) : ∀ (n : Nat) (acc : Array Nat), ((List.replicate n a).foldl (· ++ ·) acc).size = acc.size + n * a.size
  | 0, acc => by simp
  | n + 1, acc => by
    rw [List.replicate_succ, List.foldl_cons, rep_size a n, Array.size_append, Nat.succ_mul]
    omega
theorem op_mulS {X : Cx} : OpR X (binaryOp .Mult) rMulS := by
  intro pins s σ H x y v u Q I rx ry h
  obtain ⟨a, k, rfl, rfl, k2, kk, a1, aa, q⟩ := h
  obtain ⟨t, rfl⟩ := rx
  obtain ⟨t', rfl⟩ := ry
  have n1 : ¬ k < 1 := by omega
  have e1 : (k == 1 || a.length == 0) = false := by
    have h1 : (k == 1) = false := by simp; omega
    have h2 : (a.length == 0) = false := by simp; omega
    rw [h1, h2]; rfl
  have l : a.length * k.toNat ≤ sizeLine := by
    have : a.length * k.toNat ≤ 1000 * 10000 := Nat.mul_le_mul aa (by omega)
    exact Nat.le_trans this (by decide)
  refine PySem.P.mul_str ?_ (fun _ _ => ?_) (fun _ _ => ?_) ?_
  · rw [decide_eq_false (by omega), decide_eq_false (by omega)]; rfl
  · have : k * 1000 ≤ 2 ^ 63 - 1 := by omega
    have := (Int.le_ediv_iff_mul_le (by omega : 0 < k)).mpr (by omega : 1000 * k ≤ 2 ^ 63 - 1)
    omega
  · unfold PySem.Builtin.Str.tooLong
    rw [decide_eq_false (by omega)]
  · rw [if_neg n1, e1]
    refine ⟨?_, ?_⟩
    · show Array.size _ ≤ _
      rw [rep_size, Array.size_empty, Nat.zero_add, Nat.mul_comm]
      exact l
    · exact ⟨.str _, H, I.tok _, ⟨_, rfl⟩, q⟩
def repS (a : Str) (k : Int) : Str := ⟨(List.replicate k.toNat a.cps).foldl (· ++ ·) #[]⟩
def fMulS (x y : D) (S : Sto) : R D := match x, y with
  | .str a, .int k => if 2 ≤ k ∧ k ≤ 10000 ∧ 1 ≤ a.length ∧ a.length ≤ 1000 then .ok (.str (repS a k)) S else .bad
  | _, _ => .bad
theorem sMulS {K : PySem.W.Frag} : OpS K rMulS fMulS := by
  intro mg W σ ι H S x y dx dy Q s rx ry p
  unfold fMulS at p
  split at p
  · split at p
    · rename_i h
      cases rx; cases ry
      exact ⟨_, _, rfl, rfl, h.1, h.2.1, h.2.2.1, h.2.2.2, p.ret s (.str _)⟩
    · exact p.elim
  · exact p.elim
end
end Z
end

section
set_option Elab.async false
set_option linter.all false
set_option maxRecDepth 100000
set_option maxHeartbeats 1000000
namespace Z
noncomputable section
open PySem PySem.Spec PyProof.Rows L2
/-! ### enumerate(tuple, start=k): a pair (k + i, item) at turn i -/
/-- the i-th item of the tuple at a -/
def AtT (K : PySem.W.Frag) (a : Addr) (i : Nat) (H : Hp) (x : V) : Prop := ∀ ys, SqT K H a ys → ys[i]? = some x
def ItEn (K : PySem.W.Frag) (a : Addr) (k : Int) : It where
  go i H := ∃ ys y, SqT K H a ys ∧ ys[i]? = some y
  yld i H v H' := ∃ q y, v = V.ref q ∧ H q = none ∧ H' = upd H q (.tup [.int (k + (i : Nat)), y]) ∧ AtT K a i H y
  stop i H := ∃ ys : List V, SqT K H a ys ∧ ys.length = i
structure EnSt (a e j : Addr) (k : Int) (i : Nat) (h : Heap) : Prop where
  en : ∃ last, IsEnum h e j (k + (i : Nat)) last
  tu : h.IsTupleIter j a i
theorem EnSt.old {a e j b : Addr} {k : Int} {i : Nat} {h : Heap} (z : EnSt a e j k i h) (hb : b ∈ [e, j]) : ∃ o, h.get? b = some o ∧ ∀ v, o.data ≠ .cell v := by
  obtain ⟨⟨last, h1⟩, o, h2, _, h3⟩ := z
  simp only [List.mem_cons, List.not_mem_nil, or_false] at hb
  rcases hb with rfl | rfl
  · exact ⟨_, h1, fun _ q => nomatch q⟩
  · exact ⟨o, h2, fun v q => by rw [h3] at q; cases q⟩
theorem EnSt.lt {a e j b : Addr} {k : Int} {i : Nat} {h : Heap} (z : EnSt a e j k i h) (hb : b ∈ [e, j]) : b < h.objs.size := by
  obtain ⟨o, ho, _⟩ := z.old hb
  exact Heap.lt_size ho
theorem turn_en {P : Program} {w : World} {K : PySem.W.Frag} {es : List Expr} {nn : Nat} {tp : Pos} {k : Int} {a e j : Addr} (n1 : a ≠ j) (n2 : e ≠ a) (n3 : e ≠ j) :
    Turn P w K (.Tuple es nn tp) (ItEn K a k) [e, j] e (EnSt a e j k) := by
  have me : e ∈ [e, j] := by simp
  have mj : j ∈ [e, j] := by simp
  refine ⟨me, fun i h z b hb => z.old hb, fun i h h' z kp => ?_, ?_, ?_, fun A i s Q E z q => ?_⟩
  · obtain ⟨⟨last, h1⟩, h2⟩ := z
    exact ⟨⟨last, kp e me _ h1⟩, h2.at fun o q => kp j mj o q⟩
  · rintro X rfl rfl rfl hc i pins s σ H E I free z ⟨ys, y, sq, hy⟩
    obtain ⟨its, rv, isT, _⟩ := I.tuple sq
    obtain ⟨u, hu, ru⟩ := rv.get hy
    have hu2 : its.toArray[i]? = some u := by rw [List.getElem?_toArray]; exact hu
    have hlt : i < its.toArray.size := (Array.getElem?_eq_some_iff.mp hu2).1
    have hd : X.A.in1.in1.handled = none := I.ok.hd hc
    have dr := Draws.tuple (prog := X.prog) (w := X.w) (A := X.A.in1) hd j a n1 its.toArray
    obtain ⟨last, en⟩ := z.en
    have le := z.lt me
    have lj := z.lt mj
    refine wpAny_pyNext_enum_itemC dr en ⟨z.tu, isT⟩ hlt n3 (by simp [n2, n3]) fun x g1 tk hx out st1 tup sz kp => ?_
    obtain rfl : u = x := Option.some.inj (hu2.symm.trans hx)
    refine ⟨_, rfl, ?_⟩
    refine wpAny_letOwnedTupleGo_enum (s := ⟨g1, s.gens, s.drawn, tk + 1, s.os⟩) out fun g2 en2 sb => ?_
    have tup2 : g2.get? s.heap.objs.size = some { cls := .type "tuple", data := .seq #[.int (k + (i : Nat)) tk, u] } := (sb.2 _ (Nat.ne_of_gt le)).trans tup
    have fresh := I.hok.fresh (Nat.le_refl s.heap.objs.size)
    have pr : Vals [.int (k + (i : Nat)), y] [.int (k + (i : Nat)) tk, u] := .cons ⟨tk, rfl⟩ (.cons ru .nil)
    have keep2 : ∀ b o, b ∉ [e, j] → s.heap.get? b = some o → g2.get? b = some o := fun b o hb q => by
      simp only [List.mem_cons, List.not_mem_nil, or_false, not_or] at hb
      rw [sb.2 b hb.1]
      exact kp b o hb.1 hb.2 q
    have I2 := I.turnedNew (t' := tk + 1) (ob := .tup [.int (k + (i : Nat)), y]) keep2 free (Nat.le_refl _) ⟨(by decide : 2 ≤ sizeLine), _, pr, ⟨_, tup2, rfl, _, rfl⟩⟩
    refine ⟨V.ref s.heap.objs.size, _, I2, rfl, ⟨_, y, rfl, fresh, rfl, fun ys' sq' => by rw [I.tuple_inj sq' sq, hy]⟩, ⟨⟨u, ?_⟩, ?_⟩, fun b hb => ?_⟩
    · have ei : (k + (i : Nat)) + 1 = k + ((i + 1 : Nat) : Int) := by omega
      rw [← ei]; exact en2
    · exact st1.1.at fun o q => by rw [sb.2 j (Ne.symm n3)]; exact q
    · have := z.lt hb
      rw [upd_ne (Nat.ne_of_lt this)]
      exact (free b hb).1
  · rintro X rfl rfl rfl hc i pins s σ H E I free z ⟨ys, sq, hl⟩
    obtain ⟨its, rv, isT, _⟩ := I.tuple sq
    have hd : X.A.in1.in1.handled = none := I.ok.hd hc
    have hn : its.toArray.size = i := by rw [List.size_toArray, ← rv.length, hl]
    have dr := Draws.tuple (prog := X.prog) (w := X.w) (A := X.A.in1) hd j a n1 its.toArray
    obtain ⟨last, en⟩ := z.en
    have tu := z.tu
    rw [← hn] at tu en
    refine wpAny_pyNext_enum_endD dr en ⟨tu, isT⟩ fun g2 kp => ⟨rfl, ?_⟩
    obtain ⟨f0, f1, f2, f3, f4, f5⟩ := free j mj
    exact I.turned (t' := s.toks) kp f0 f1 f3 f4 f5
  · obtain ⟨⟨last, h1⟩, _⟩ := z
    exact wpAny_pyIter_enum h1 q
end
end Z
end

section
set_option Elab.async false
set_option linter.all false
set_option maxRecDepth 100000
set_option maxHeartbeats 1000000
namespace Z
noncomputable section
open PySem PySem.Spec PyProof.Rows L2
/-- what enumerate(v, ..) from k on lays down -/
def EnOb (j : Addr) (k : Int) : Obj := { cls := .type "enumerate", data := .fields #[.none, .bool false, .ref j, rawInt k, .none, .none] }
theorem meets_en1 {v : Value} {o : Obj} {Hh : Heap → Prop} (B : Begins v o Hh) :
    Meets (Builtin.«enumerate.__new__» ⟨[.type "enumerate", v], []⟩) (fun _ R s => Hh s.heap ∧ R (.ok (.ret (.ref (s.heap.push o).objs.size))) { s with heap := (s.heap.push o).push (EnOb s.heap.objs.size 0) }) :=
  .of_wp fun prog w A R s ⟨h1, h⟩ => by
    obtain ⟨hp, g, d, tk, os⟩ := s
    have sub := sub_enumerate
    have q1 : ∀ {A' : Around} {E : Value → Shared → Prop} {Q : Value → Shared → Prop}, Q (.ref hp.objs.size) ⟨hp.push o, g, d, tk, os⟩ → wpAny (model prog w) A' (pyIter v) Q E ⟨hp, g, d, tk, os⟩ := fun q => B.iter prog w _ _ ⟨hp, g, d, tk, os⟩ _ h1 q
    wp_walk using q1
    refine wpAny_stack_any (fun _ => wpAny_pure ?_)
    split
    · rename_i cc _ _ _ _ _
      cases (cc == Value.type "enumerate") <;> (wp_walk using q1; exact ⟨_, rfl, h⟩)
    · (wp_walk using q1; exact ⟨_, rfl, h⟩)
section
variable {P : Program} {w : World} {A : Around} {E : Value → Shared → Prop} {s : Shared}
/-- what stands behind enumerate(v, ..): its two cells -/
structure EnBeg (s : Shared) (o : Obj) (k : Int) (h' : Heap) : Prop where
  en : IsEnum h' (s.heap.objs.size + 1) s.heap.objs.size k .none
  it : h'.get? s.heap.objs.size = some o
  kp : ∀ b o, s.heap.get? b = some o → h'.get? b = some o
theorem call_en1 {v : Value} {o : Obj} {Hh : Heap → Prop} {Q : Value → Shared → Prop} (B : Begins v o Hh) (h1 : Hh s.heap) (q : ∀ h', EnBeg s o 0 h' → Q (.ref (s.heap.objs.size + 1)) { s with heap := h' }) :
    wpAny (model P w) A (call (.type "enumerate") [v]) Q E s := by
  have z1 : (s.heap.push o).objs.size = s.heap.objs.size + 1 := Heap.size_push ..
  have q2 : Q (.ref (s.heap.push o).objs.size) { s with heap := (s.heap.push o).push (EnOb s.heap.objs.size 0) } := by
    rw [z1]
    refine q _ ⟨?_, Heap.get?_push_of_some _ (Heap.get?_push_size _ B.free), fun b u e => Heap.get?_push_of_some _ (Heap.get?_push_of_some _ e)⟩
    have g := Heap.get?_push_size (s.heap.push o) (o := EnOb s.heap.objs.size 0) rfl
    rw [z1] at g
    exact g
  exact callType_new F.called_enumerate (by decide) (F.typeCall_enumerate_1 _) (F.newCall_enumerate_1 _) (fun obj => F.args_object_init_2 obj _) F.entry_enumerate_new (meets_en1 B) ⟨h1, ⟨⟨_, Heap.get?_push_size _ rfl, rfl⟩, q2⟩⟩
theorem call_enk {v : Value} {o : Obj} {Hh : Heap → Prop} {k : Int} {t : Tok} {Q : Value → Shared → Prop} (B : Begins v o Hh) (h1 : Hh s.heap) (k0 : -(2 ^ 63) ≤ k) (k1 : k < 2 ^ 63) (q : ∀ h', EnBeg s o k h' → Q (.ref (s.heap.objs.size + 1)) { s with heap := h' }) :
    wpAny (model P w) A (call (.type "enumerate") [v] [(Str.ofString "start", .int k t)]) Q E s :=
  enum_begins_start B h1 k0 k1 fun h' a b _ d => q h' ⟨a, b, d⟩
end
end
end Z
end

section
set_option Elab.async false
set_option linter.all false
set_option maxRecDepth 100000
set_option maxHeartbeats 1000000
namespace Z
noncomputable section
open PySem PySem.Spec PyProof.Rows L2
section
variable {M : Model} {A : Around} {E : Value → Shared → Prop} {s : Shared}
/-- a type called with keywords -/
theorem type_kw {pos : Pos} {T : String} {as : List (Bool × Sem Value)} {ks : List (Option Str × Sem Value)} {Q : Value → Shared → Prop} (n1 : as.any (·.1) = false) (n2 : ks.any (·.1.isNone) = false)
    (h : wpAny M A (evalArgs (.type T) true as ks) (fun a s1 => wpAny M A (call (.type T) a.pos a.kw) Q E s1) E s) : wpAny M A (callWith pos (.type T) [] as ks) Q E s := by
  unfold callWith
  refine wpAny_bind (wpAny_holding (wpAny_mono h (fun a s1 h1 => ?_) fun _ _ x => x))
  refine wpAny_bind (wpAny_standAt ?_)
  simp only [n1, n2, Bool.or_false]
  exact wpAny_bind (wpAny_pure (wpAny_bind (wpAny_mono h1 (fun r s2 hr => wpAny_bind (wpAny_holding (wpAny_point (wpAny_pure hr)))) fun _ _ x => x)))
end
section
variable {X : Cx} {e : Expr} {ta tk : TA} {p pos tpos kp : Pos} {es : List Expr} {kk : Nat} {kx : Expr}
def iEnT (K : PySem.W.Frag) (k : Int) (ta : TA) : TI := fun σ H R => ta σ H fun vs H1 => ∃ a xs, vs = [V.ref a] ∧ SqT K H1 a xs ∧ R (ItEn K a k) H1
theorem en_go {pins : List (Addr × Obj)} {s : Shared} {σ : L2.St} {H : Hp} {k : Int} {a : Addr} {xs : List V} {R : It → Hp → Prop} {its : Array Value} {h' : Heap} (I : Inv X pins σ H s) (sq : SqT X.K H a xs) (isT : s.heap.IsTuple a its)
    (B : EnBeg s { cls := .type "tuple_iterator", data := .fields #[.ref a, .int 0 0] } k h') (q : R (ItEn X.K a k) H) :
    wpAny (model X.prog X.w) X.A (pyIter (.ref (s.heap.objs.size + 1))) (PIE X pins σ (.Tuple es kk tpos) R) X.xe { s with heap := h' } := by
  have la : a < s.heap.objs.size := by obtain ⟨_, g, _⟩ := isT; exact Heap.lt_size g
  have I2 : Inv X pins σ H { s with heap := h' } := I.kept (t' := s.toks) B.kp
  have st0 : EnSt a (s.heap.objs.size + 1) s.heap.objs.size k 0 h' := ⟨⟨.none, by have := B.en; simpa using this⟩, ⟨_, B.it, rfl, rfl⟩⟩
  refine wpAny_pyIter_enum B.en ⟨s.heap.objs.size + 1, [s.heap.objs.size + 1, s.heap.objs.size], _, _, H, rfl, I2, turn_en (Nat.ne_of_lt la) (Nat.ne_of_gt (Nat.lt_succ_of_lt la)) (Nat.succ_ne_self _), st0, fun b hb => ?_, q⟩
  have hle : s.heap.objs.size ≤ b := by
    rcases List.mem_cons.mp hb with z | z
    · rw [z]; exact Nat.le_add_right _ _
    · rw [List.mem_singleton.mp z]; exact Nat.le_refl _
  exact I.fpOk hle (I.hok.fresh hle)
theorem pi_enT (hg : Gl X "enumerate") (hm : X.mg "enumerate" = none) (ha : PA X [e] ta) (hs : starEach [e] X.env = [(false, eval e X.env)] := by rfl) :
    PI X (.Tuple es kk tpos) (.Call (.Name "enumerate" p) [e] [] pos) (iEnT X.K 0 ta) := by
  refine ⟨fun pins s σ H R I h => Call_ (ld_blt I hg hm boot_enumerate (callWith_type1 (thn (ha.run pos pins s σ H _ I h) fun us s1 ⟨vs, H1, I1, r1, a, xs, ev, sq, q⟩ => ?_) hs rfl))⟩
  subst ev
  obtain ⟨u, rfl, ru⟩ := r1.one
  cases ru
  obtain ⟨its, rv, isT, _⟩ := I1.tuple sq
  exact call_en1 (begins_tuple a its.toArray) isT fun h' B => en_go I1 sq isT B q
theorem pi_enK {k : Int} (k0 : -(2 ^ 63) ≤ k) (k1 : k < 2 ^ 63) (hg : Gl X "enumerate") (hm : X.mg "enumerate" = none) (ha : PA X [e] ta) (hk : PK X [⟨some "start", kx, kp⟩] (fun σ H Q => Q [V.int k] H))
    (he : backTo pos (starEach [e] X.env) = (false, eval e X.env) :: backTo pos (starEach [] X.env) := by rfl) (hp : (backTo pos (starEach [e] X.env)).any (·.1) = false := by rfl)
    (h1 : (backToKw pos (keywordEach [⟨some "start", kx, kp⟩] X.env)).all (·.1.isSome) = true := by rfl) (h2 : (backToKw pos (keywordEach [⟨some "start", kx, kp⟩] X.env)).any (·.1.isNone) = false := by rfl) (h3 : (backToKw pos (keywordEach [⟨some "start", kx, kp⟩] X.env)).filterMap (·.1) = [Str.ofString "start"] := by rfl) :
    PI X (.Tuple es kk tpos) (.Call (.Name "enumerate" p) [e] [⟨some "start", kx, kp⟩] pos) (iEnT X.K k ta) := by
  refine ⟨fun pins s σ H R I h => wpAny_Call_Name_kw (ld_blt I hg hm boot_enumerate (type_kw hp h2 ?_))⟩
  rw [he]
  refine evalArgs_kwB h1 ?_
  rw [← he]
  refine thn (ha.run pos pins s σ H _ I h) fun us s1 ⟨vs, H1, I1, r1, a, xs, ev, sq, q⟩ => ?_
  refine thn (hk.run pos pins s1 σ H1 (fun zs H2 => zs = [V.int k] ∧ H2 = H1) I1 ⟨rfl, rfl⟩) fun ws s2 ⟨zs, H2, I2, r2, ez, eH⟩ => ?_
  subst ev ez eH
  rw [h3]
  obtain ⟨u, rfl, ru⟩ := r1.one
  obtain ⟨v, rfl, rv2⟩ := r2.one
  cases ru
  obtain ⟨t, rfl⟩ := rv2
  obtain ⟨its, rv, isT, _⟩ := I2.tuple sq
  exact call_enk (begins_tuple a its.toArray) isT k0 k1 fun h' B => en_go I2 sq isT B q
end
end
end Z
end

section
set_option Elab.async false
set_option linter.all false
set_option maxRecDepth 100000
set_option maxHeartbeats 1000000
namespace Z
noncomputable section
open PySem PySem.Spec PyProof.Rows L2
/-! ### enumerate -/
def enuD : Int → List D → List D
  | _, [] => []
  | k, x :: xs => .tup [.int k, x] :: enuD (k + 1) xs
theorem enuD_get : ∀ (xs : List D) (k : Int) (i : Nat), (enuD k xs)[i]? = (xs[i]?).map fun x => .tup [.int (k + (i : Nat)), x]
  | [], k, i => by simp [enuD]
  | x :: xs, k, 0 => by simp [enuD]
  | x :: xs, k, i + 1 => by
    have h := enuD_get xs (k + 1) i
    simp only [enuD, List.getElem?_cons_succ, h]
    congr 1
    funext y
    have : k + 1 + (i : Int) = k + ((i + 1 : Nat) : Int) := by omega
    rw [this]
theorem enuD_len : ∀ (xs : List D) (k : Int), (enuD k xs).length = xs.length
  | [], _ => rfl
  | x :: xs, k => by simp only [enuD, List.length_cons, enuD_len xs]
def iEn (k : Int) (d : Den) : DenI := fun env S => (d env S).bind fun x S1 => match x with
  | .tup xs => .ok (enuD k xs, fun _ => True) S1
  | _ => .bad
section
variable {X : Cx} {W : WX} {e : Expr} {es : List Expr} {d : Den} {da : DenA} {pos p tpos kp : Pos} {kk : Nat} {kx : Expr}
theorem en_ok {K : PySem.W.Frag} {ι : Em} {H : Hp} {a : Addr} {k : Int} {xs : List D} (r : Rp K H ι (.ref a) (.tup xs)) : ItOk K (ItEn K a k) (enuD k xs) (fun _ => True) ι H := by
  have get : ∀ (ι2 : Em) (H2 : Hp), Ext ι H ι2 H2 → ∃ vs, SqT K H2 a vs ∧ Rps K H2 ι2 vs xs := fun ι2 H2 e => by
    obtain ⟨b, vs, eb, sq, rs⟩ := (r.ext e).tup_inv
    cases eb
    exact ⟨vs, sq, rs⟩
  refine ⟨fun ι2 H2 S2 i x e s _ hx => ?_, fun ι2 H2 S2 e s _ => ?_⟩
  · obtain ⟨vs, sq, rs⟩ := get ι2 H2 e
    rw [enuD_get] at hx
    cases hy : xs[i]? with
    | none => rw [hy] at hx; cases hx
    | some y =>
      rw [hy] at hx; cases hx
      obtain ⟨v, hv, rv⟩ := rs.get hy
      refine ⟨⟨vs, v, sq, hv⟩, ?_⟩
      rintro w H3 ⟨q, u, rfl, hq, rfl, at_⟩
      have eu := at_ vs sq
      rw [hv] at eu; cases eu
      exact ⟨Ext.new hq, s.new hq, .tup (s.out hq) upd_same (.cons (.int _) (.cons (rv.ext (Ext.new hq)) .nil))⟩
  · obtain ⟨vs, sq, rs⟩ := get ι2 H2 e
    exact ⟨vs, sq, by rw [enuD_len, rs.length]⟩
theorem rd_en {K : PySem.W.Frag} {mg : Str → Option Value} {k : Int} {σ : L2.St} {H : Hp} {R : It → Hp → Prop} (h : rdI K mg W (iEn k d) σ H R) : iEnT K k (rdA K mg W (aCons d aNil)) σ H R := by
  obtain ⟨ι, env, S, s, er, p⟩ := h
  refine ⟨ι, env, S, s, er, ?_⟩
  unfold iEn at p
  unfold aCons aNil
  cases hd : d env S with
  | ok x S1 =>
    rw [hd] at p
    cases x with
    | tup xs =>
      intro ι1 H1 vs e1 s1 r1
      obtain ⟨v, rfl, rv⟩ := rps1 r1
      obtain ⟨b, vs, rfl, sq, rs⟩ := rv.tup_inv
      exact ⟨b, vs, rfl, sq, p ι1 H1 _ e1 s1 (en_ok rv)⟩
    | _ => exact p.elim
  | ex c fs S1 => rw [hd] at p; exact p
  | bad => rw [hd] at p; exact p.elim
theorem i_en (hg : Gl X "enumerate") (hm : X.mg "enumerate" = none) (ha : EE X W e d) (hs : starEach [e] X.env = [(false, eval e X.env)] := by rfl) : II X W (.Tuple es kk tpos) (.Call (.Name "enumerate" p) [e] [] pos) (iEn 0 d) :=
  PI.imp (pi_enT hg hm (a_cons ha a_nil hs) hs) fun σ H R h => rd_en h
theorem i_enK {k : Int} {j : Nat} {cp : Pos} (k0 : -(2 ^ 63) ≤ k) (k1 : k < 2 ^ 63) (hg : Gl X "enumerate") (hm : X.mg "enumerate" = none) (ha : EE X W e d) (hs : starEach [e] X.env = [(false, eval e X.env)] := by rfl)
    (he : backTo pos (starEach [e] X.env) = (false, eval e X.env) :: backTo pos (starEach [] X.env) := by rfl) (hp : (backTo pos (starEach [e] X.env)).any (·.1) = false := by rfl)
    (h1 : (backToKw pos (keywordEach [⟨some "start", .Constant (.int k) j cp, kp⟩] X.env)).all (·.1.isSome) = true := by rfl) (h2 : (backToKw pos (keywordEach [⟨some "start", .Constant (.int k) j cp, kp⟩] X.env)).any (·.1.isNone) = false := by rfl) (h3 : (backToKw pos (keywordEach [⟨some "start", .Constant (.int k) j cp, kp⟩] X.env)).filterMap (·.1) = [Str.ofString "start"] := by rfl) :
    II X W (.Tuple es kk tpos) (.Call (.Name "enumerate" p) [e] [⟨some "start", .Constant (.int k) j cp, kp⟩] pos) (iEn k d) :=
  PI.imp (pi_enK k0 k1 hg hm (a_cons ha a_nil hs) (pk_cons pe_int pk_nil) he hp h1 h2 h3) fun σ H R h => rd_en h
end
end
end Z
end

section
set_option Elab.async false
set_option linter.all false
set_option maxRecDepth 100000
set_option maxHeartbeats 1000000
namespace Z
noncomputable section
open PySem PySem.Spec PyProof.Rows L2
/-! ### insert, pop(i) -/
def fIns (x : D) (ys : List D) (S : Sto) : R D := match x, ys with
  | .ref n, [.int i, y] => match S[n]? with
    | some (.lst xs) => if FitS xs.length ∧ 0 ≤ i ∧ i < 1000000 then .ok .non (S.set n (.lst (xs.take i.toNat ++ y :: xs.drop i.toNat))) else .bad
    | none => .bad
  | _, _ => .bad
def fPopAt (x : D) (ys : List D) (S : Sto) : R D := match x, ys with
  | .ref n, [.int i] => match S[n]? with
    | some (.lst xs) => if 0 ≤ i ∧ i < 1000000 then match xs[i.toNat]? with
      | some y => .ok y (S.set n (.lst (xs.eraseIdx i.toNat)))
      | none => .bad
      else .bad
    | none => .bad
  | _, _ => .bad
section
variable {K : PySem.W.Frag}
theorem Rps.erase {H : Hp} {ι : Em} {vs : List V} {ds : List D} (k : Nat) (r : Rps K H ι vs ds) : Rps K H ι (vs.eraseIdx k) (ds.eraseIdx k) := by
  rw [List.eraseIdx_eq_take_drop_succ, List.eraseIdx_eq_take_drop_succ]
  exact (r.take k).append (r.drop (k + 1))
theorem sIns : MzS K (fun x vs H Q => ∃ (l : Addr) (xs : List V) (i : Int) (y : V), x = .ref l ∧ vs = [.int i, y] ∧ H l = some (.lst xs) ∧ xs.length < sizeLine ∧ 0 ≤ i ∧ i < 2 ^ 63 ∧ Q .non (upd H l (.lst (xs.take i.toNat ++ [y] ++ xs.drop i.toNat)))) fIns := by
  intro mg W σ ι H S x dx ys dys Q s r rs p
  unfold fIns at p
  split at p
  · rename_i n i y
    split at p
    · rename_i xs e
      split at p
      · rename_i hl
        obtain ⟨h1, h2, h3⟩ := hl
        obtain ⟨a, vs, rfl, ea, h4, h5⟩ := refL s r e
        obtain ⟨u, v, rfl, ru, rv⟩ := rps2 rs
        cases ru
        refine ⟨a, vs, i, v, rfl, rfl, h4, by rw [h5.length]; exact h1, h2, Int.lt_trans h3 (by decide), p ι _ _ (Ext.put ea) (s.put ea ?_) .non⟩
        have := ((h5.take i.toNat).append (.cons rv .nil)).append (h5.drop i.toNat)
        have e5 : xs.take i.toNat ++ y :: xs.drop i.toNat = xs.take i.toNat ++ [y] ++ xs.drop i.toNat := by simp
        rw [e5]
        exact this
      · exact p.elim
    · exact p.elim
  · exact p.elim
theorem sPopAt : MzS K rPopAt fPopAt := by
  intro mg W σ ι H S x dx ys dys Q s r rs p
  unfold fPopAt at p
  split at p
  · rename_i n i
    split at p
    · rename_i xs e
      split at p
      · rename_i hi
        split at p
        · rename_i y e2
          obtain ⟨a, vs, rfl, ea, h1, h2⟩ := refL s r e
          obtain ⟨w, rfl, rw1⟩ := rps1 rs
          cases rw1
          obtain ⟨u, e3, ru⟩ := h2.get e2
          have hlt := (List.getElem?_eq_some_iff.mp e3).1
          refine ⟨a, vs, i, i.toNat, u, rfl, rfl, h1, Int.le_trans (by decide) hi.1, Int.lt_trans hi.2 (by decide), ?_, e3, p ι _ _ (Ext.put ea) (s.put ea (h2.erase _)) (ru.ext (Ext.put ea))⟩
          unfold seqIndex?
          have n1 : ¬ i < 0 := by omega
          rw [if_neg n1]
          have n2 : (decide (0 ≤ i) && decide (i < (vs.length : Int))) = true := by
            rw [Bool.and_eq_true, decide_eq_true_eq, decide_eq_true_eq]
            omega
          simp only [n2, if_true]
        · exact p.elim
      · exact p.elim
    · exact p.elim
  · exact p.elim
end
/-! ### truth of values -/
def fTr (x : D) (S : Sto) : R Bool := match x with
  | .bl c => .ok c S
  | .int i => .ok (i != 0) S
  | x => match seqOf S x with
    | some xs => .ok (!xs.isEmpty) S
    | none => .bad
def tTr (a : Den) : DenT := fun env S => (a env S).bind fTr
section
variable {X : Cx} {W : WX} {a e : Expr} {es : List Expr} {d : Den} {da : DenA} {pos p p2 pos2 sp : Pos}
theorem t_Tr (h : EE X W a d) (he : ∀ whole, isTrue a X.env whole = (do let v ← whole; standAt a.pos; holding [v] (truthy v)) := by intro _; rfl) : TT' X W a (tTr d) := PT.imp (pt_truth h he) fun σ H Q h => by
  obtain ⟨ι, env, S, s, er, p⟩ := h
  refine ⟨ι, env, S, s, er, (Post.bind (Rel' := Rp X.K) p).mono ?_⟩
  rintro x H1 ⟨ι1, dx, S1, e1, s1, r1, p1⟩
  have sq : ∀ xs, seqOf S1 dx = some xs → Post X.K X.mg (fun _ _ b c => b = c) W σ ι1 H1 (R.ok (!xs.isEmpty) S1) Q → ∃ k, TruV X.K x H1 k ∧ Q k H1 := fun xs e q => by
    obtain ⟨a, vs, rfl, h1, h2⟩ := seq_inv s1 r1 e
    have hl : vs.isEmpty = xs.isEmpty := by
      have := h2.length
      cases vs <;> cases xs <;> simp_all
    refine ⟨!xs.isEmpty, ?_, q.ret s1 rfl⟩
    rcases h1 with h1 | h1
    · exact .inl ⟨vs, h1, by rw [hl]⟩
    · exact .inr (.inl ⟨vs, h1, by rw [hl]⟩)
  cases dx with
  | bl c => cases r1; exact ⟨c, rfl, p1.ret s1 rfl⟩
  | int i => cases r1; exact ⟨_, rfl, p1.ret s1 rfl⟩
  | tup xs => exact sq _ rfl p1
  | lst xs => exact sq _ rfl p1
  | frz xs => exact sq _ rfl p1
  | ref n =>
    unfold fTr at p1
    simp only at p1
    split at p1
    · rename_i xs e; exact sq _ e p1
    · exact p1.elim
  | _ => exact p1.elim
/-! ### a starred item -/
def aStar (d : Den) (da : DenA) : DenA := fun env S => (d env S).bind fun x S1 => match seqOf S1 x with
  | some xs => (da env S1).bind fun ys S2 => .ok (xs ++ ys) S2
  | none => .bad
theorem a_star (h : EE X W e d) (hr : AA X W es da) (hs : starEach (.Starred e p :: es) X.env = (true, eval e X.env) :: starEach es X.env := by rfl) : AA X W (.Starred e p :: es) (aStar d da) := PA.imp (StX.pa_star h hr hs) fun σ H Q h => by
  obtain ⟨ι, env, S, s, er, p⟩ := h
  refine ⟨ι, env, S, s, er, (Post.bind (Rel' := Rp X.K) p).mono ?_⟩
  rintro x H1 ⟨ι1, dx, S1, e1, s1, r1, p1⟩
  split at p1
  · rename_i xs e
    obtain ⟨a, vs, rfl, h1, h2⟩ := seq_inv s1 r1 e
    refine ⟨a, vs, rfl, h1.symm, ι1, env, S1, s1, er.ext e1, (Post.bind (Rel' := Rps X.K) p1).mono ?_⟩
    rintro ys H2 ⟨ι2, dys, S2, e2, s2, r2, p2⟩
    exact p2.ret s2 ((h2.ext e2).append r2)
  · exact p1.elim
end
end
end Z
end

section
set_option Elab.async false
set_option linter.all false
set_option maxRecDepth 100000
set_option maxHeartbeats 1000000
namespace Z
noncomputable section
open PySem PySem.Spec PyProof.Rows L2
/-! ### sorted(set(tuple of numbers)) -/
def insS (k : Int) : List Int → List Int
  | [] => [k]
  | x :: xs => if k < x then k :: x :: xs else if k = x then x :: xs else x :: insS k xs
def sset (ns : List Int) : List Int := ns.foldr insS []
theorem insS_mem {k j : Int} : ∀ {xs : List Int}, j ∈ insS k xs ↔ j = k ∨ j ∈ xs
  | [] => by simp [insS]
  | x :: xs => by
    unfold insS
    split
    · simp
    · split
      · rename_i h; subst h; simp
      · simp only [List.mem_cons, insS_mem (xs := xs)]
        constructor
        · rintro (h | h | h)
          · exact .inr (.inl h)
          · exact .inl h
          · exact .inr (.inr h)
        · rintro (h | h | h)
          · exact .inr (.inl h)
          · exact .inl h
          · exact .inr (.inr h)
theorem insS_pw {k : Int} : ∀ {xs : List Int}, xs.Pairwise (· < ·) → (insS k xs).Pairwise (· < ·)
  | [], _ => by simp [insS]
  | x :: xs, h => by
    obtain ⟨h1, h2⟩ := List.pairwise_cons.mp h
    unfold insS
    split
    · rename_i hk
      refine List.pairwise_cons.mpr ⟨fun j hj => ?_, h⟩
      rcases List.mem_cons.mp hj with rfl | hj
      · exact hk
      · exact Int.lt_trans hk (h1 j hj)
    · split
      · exact h
      · rename_i a b
        refine List.pairwise_cons.mpr ⟨fun j hj => ?_, insS_pw h2⟩
        rcases insS_mem.mp hj with rfl | hj
        · omega
        · exact h1 j hj
theorem sset_mem {j : Int} : ∀ {ns : List Int}, j ∈ sset ns ↔ j ∈ ns
  | [] => by simp [sset]
  | x :: xs => by
    have ih := sset_mem (j := j) (ns := xs)
    unfold sset at ih ⊢
    rw [List.foldr_cons, insS_mem, ih, List.mem_cons]
theorem sset_pw : ∀ {ns : List Int}, (sset ns).Pairwise (· < ·)
  | [] => by simp [sset]
  | x :: xs => by
    have ih := sset_pw (ns := xs)
    unfold sset at ih ⊢
    rw [List.foldr_cons]
    exact insS_pw ih
/-- strictly ascending rows with the same numbers are one -/
theorem pw_uniq : ∀ {xs ys : List Int}, xs.Pairwise (· < ·) → ys.Pairwise (· < ·) → (∀ j, j ∈ xs ↔ j ∈ ys) → xs = ys
  | [], [], _, _, _ => rfl
  | [], y :: ys, _, _, h => by have := (h y).mpr (by simp); cases this
  | x :: xs, [], _, _, h => by have := (h x).mp (by simp); cases this
  | x :: xs, y :: ys, hx, hy, h => by
    obtain ⟨a1, a2⟩ := List.pairwise_cons.mp hx
    obtain ⟨b1, b2⟩ := List.pairwise_cons.mp hy
    have e : x = y := by
      rcases List.mem_cons.mp ((h x).mp (by simp)) with e | e
      · exact e
      · rcases List.mem_cons.mp ((h y).mpr (by simp)) with e' | e'
        · exact e'.symm
        · have := a1 y e'
          have := b1 x e
          omega
    subst e
    congr 1
    refine pw_uniq a2 b2 fun j => ⟨fun hj => ?_, fun hj => ?_⟩
    · rcases List.mem_cons.mp ((h j).mp (List.mem_cons_of_mem _ hj)) with e | e
      · subst e; have := a1 j hj; omega
      · exact e
    · rcases List.mem_cons.mp ((h j).mpr (List.mem_cons_of_mem _ hj)) with e | e
      · subst e; have := b1 j hj; omega
      · exact e
def intsD : List D → Option (List Int)
  | [] => some []
  | .int i :: xs => (intsD xs).map fun is => i :: is
  | _ :: _ => none
theorem intsD_map : ∀ ns : List Int, intsD (ns.map D.int) = some ns
  | [] => rfl
  | n :: ns => by rw [List.map_cons, intsD, intsD_map ns]; rfl
theorem ints_rps {K : PySem.W.Frag} {H : Hp} {ι : Em} : ∀ {xs : List D} {vs : List V} {ns : List Int}, Rps K H ι vs xs → intsD xs = some ns → vs = ns.map V.int
  | [], _, _, r, e => by cases r; cases e; rfl
  | .int i :: xs, _, ns, r, e => by
    cases r with
    | cons r1 r2 =>
      cases r1
      rw [intsD] at e
      cases q : intsD xs with
      | none => rw [q] at e; cases e
      | some is => rw [q] at e; cases e; rw [ints_rps r2 q]; rfl
theorem int_rps {K : PySem.W.Frag} {H : Hp} {ι : Em} : ∀ ns : List Int, Rps K H ι (ns.map V.int) (ns.map D.int)
  | [] => .nil
  | n :: ns => .cons (.int n) (int_rps ns)
section
variable {X : Cx} {W : WX} {e : Expr} {te : TE} {d : Den} {p p2 pos pos2 : Pos}
def rSetTu (K : PySem.W.Frag) (w : World) (vs : List V) (H : Hp) (Q : VK) : Prop := ∃ (l : Addr) (ns : List Int), vs = [V.ref l] ∧ SqT K H l (ns.map V.int) ∧ ns.length < 60 ∧ ∀ (q : Addr) (c : Nat), H q = none → c ≤ ns.length → Q (.ref q) (upd H q (SetO w q (fun j => decide (j ∈ ns)) c))
theorem cr_setTu (hc : X.calm = true) : CallR X (.type "set") (rSetTu X.K X.w) := by
  rintro pins s σ H xs us Q I r ⟨l, ns, rfl, sq, hl, q⟩
  obtain ⟨u, rfl, ru⟩ := r.one
  cases ru
  obtain ⟨its, rv, isT, _⟩ := I.tuple sq
  refine call_set_tupI ns (I.ok.hd hc) isT (ints_of_vals rv) (by unfold scanBound; omega) fun h' tk c R hcn k => ?_
  exact ⟨.ref s.heap.objs.size, _, I.laid (t' := tk) k (Nat.le_refl _) (setO_new R), rfl, q _ c (I.hok.fresh (Nat.le_refl _)) hcn⟩
def dSoSet (d : Den) : Den := fun env S => (d env S).bind fun x S1 => match x with
  | .tup xs => match intsD xs with
    | some ns => if ns.length < 60 then .ok (.lst ((sset ns).map D.int)) S1 else .bad
    | none => .bad
  | _ => .bad
theorem e_soSet (hc : X.calm = true) (g1 : Gl X "sorted") (m1 : X.mg "sorted" = none) (g2 : Gl X "set") (m2 : X.mg "set" = none) (h : EE X W e d)
    (s1 : starEach [e] X.env = [(false, eval e X.env)] := by rfl) (s2 : starEach [.Call (.Name "set" p2) [e] [] pos2] X.env = [(false, eval (.Call (.Name "set" p2) [e] [] pos2) X.env)] := by rfl) :
    EE X W (.Call (.Name "sorted" p) [.Call (.Name "set" p2) [e] [] pos2] [] pos) (dSoSet d) := by
  have c1 := pe_callTy (x := "set") (p := p2) (pos := pos2) (cr_setTu hc) g2 m2 boot_set (pa_cons h pa_nil s1) (by decide) (by decide) s1 rfl
  have c2 := pe_callB (x := "sorted") (p := p) (pos := pos) (cr_sortedSet hc) g1 m1 boot_sorted (pa_cons c1 pa_nil s2) (by decide) (by decide) s2 rfl
  refine PE.imp c2 fun σ H Q h => ?_
  obtain ⟨ι, env, S, s, er, p⟩ := h
  refine ⟨ι, env, S, s, er, ?_⟩
  refine (Post.bind (Rel' := Rp X.K) p).mono ?_
  rintro x H1 ⟨ι1, dx, S1, e1, s1, r1, p1⟩
  split at p1
  · rename_i xs
    split at p1
    · rename_i ns en
      split at p1
      · rename_i hl
        obtain ⟨b, vs, rfl, sq, rs⟩ := r1.tup_inv
        have ev := ints_rps rs en
        subst ev
        refine ⟨b, ns, rfl, sq, hl, fun q c hq hcn => ⟨q, _, c, rfl, upd_same, by omega, fun ms t pw mem hlen ht => ?_⟩⟩
        have em : ms = sset ns := pw_uniq pw sset_pw fun j => by rw [mem, sset_mem, decide_eq_true_eq]
        subst em
        have E1 : Ext ι1 H1 (ι1.ban q) (upd H1 q (SetO X.w q (fun j => decide (j ∈ ns)) c)) := Ext.banned hq
        have S1' := s1.banned (o := SetO X.w q (fun j => decide (j ∈ ns)) c) hq
        refine p1 _ _ _ (E1.tr S1' (Ext.new ht)) (S1'.new ht) (.lst (S1'.out ht) upd_same (int_rps _))
      · exact p1.elim
    · exact p1.elim
  · exact p1.elim
end
end
end Z
end

section
set_option Elab.async false
set_option linter.all false
set_option maxRecDepth 100000
set_option maxHeartbeats 1000000
namespace Z
noncomputable section
open PySem PySem.Spec PyProof.Rows L2
def sRetN : SDen := fun _ S => F.rt .non S
section
variable {X : Cx} {W : WX} {pos : Pos}
theorem s_retN : SS X W (.Return none pos) sRetN := PS.imp ps_retN fun Dn σ H h => by
  obtain ⟨ι, env, S, s, er, p⟩ := h
  exact p ι H .non Ext.refl s .non
end
end
end Z
end

section
set_option Elab.async false
set_option linter.all false
set_option maxRecDepth 100000
set_option maxHeartbeats 1000000
namespace Z
open PySem PySem.Spec PyProof.Rows L2
theorem look_map {f : Str × NameKind → Str × NameKind} (hf : ∀ p, (f p).1 = p.1) {x : Str} {k : NameKind} : ∀ {ns : List (Str × NameKind)}, ns.lookup x = some k → (ns.map f).lookup x = some (f (x, k)).2
  | [], h => by cases h
  | (n, j) :: r, h => by
    have e : f (n, j) = (n, (f (n, j)).2) := Prod.ext (hf (n, j)) rfl
    rw [List.map_cons, e, List.lookup_cons]
    rw [List.lookup_cons] at h
    by_cases hx : (x == n) = true
    · rw [hx] at h ⊢
      simp only [Option.some.injEq] at h ⊢
      have : x = n := eq_of_beq hx
      subst this; subst h; rfl
    · rw [Bool.not_eq_true] at hx
      rw [hx] at h ⊢
      exact look_map hf h
theorem blk_rel {N : List Str} {sc scope : Scope} {own : List (Str × Nat)} {env : PySem.Env} (h : BlkOk N sc scope own) : BlkOk N (relabel sc env) scope own := by
  refine ⟨h.kind, h.uniq, h.ix, fun y hy e => ?_, h.own⟩
  have g : ∀ k, sc.names.lookup y.1 = some k → (k = .cell ∨ k = .free) → (relabel sc env).names.lookup y.1 = some .cell ∨ (relabel sc env).names.lookup y.1 = some .free := fun k hk hc => by
    have m := look_map (f := fun (p : Str × NameKind) => if (p.2 == NameKind.free && env.scope.kind == .function && env.kindOf p.1 == some .cell) then (p.1, NameKind.cell) else (p.1, p.2)) (fun p => by split <;> rfl) hk
    have r : (relabel sc env).names.lookup y.1 = _ := m
    rw [r]
    split
    · exact .inl rfl
    · rcases hc with rfl | rfl
      · exact .inl rfl
      · exact .inr rfl
  rcases h.free y hy e with q | q
  · exact g _ q (.inl rfl)
  · exact g _ q (.inr rfl)
end Z
end

section
set_option Elab.async false
set_option linter.all false
set_option maxRecDepth 100000
set_option maxHeartbeats 1000000
/-! defs that are called while an error is handled -/
namespace Z
noncomputable section
open PySem PySem.Spec PyProof.Rows L2
theorem takes0N {X : Cx} : L2N.Takes X (fun _ _ _ _ => False) := fun _ _ x => by
  obtain ⟨_, _, _, _, _, _, _, _, _, _, _, _, _, _, _, _, z⟩ := x
  exact z.elim
abbrev RoomH := L2H.RoomH
theorem roomS {k : Nat} {A : Around} {h : Option Value} (r : Room k A) : L2H.RoomH k (A.mark h) := ⟨r.dp, r.un⟩
theorem RoomH.units {k : Nat} {A : Around} (r : L2H.RoomH k A) : A.units + 64 < cLine := by have := r.un; omega
abbrev FnZH (P : Program) (w : World) (K : PySem.W.Frag) (mg : Str → Option Value) (base : Heap) (k : Nat) (f : Addr) (fd : FuncData) (ps : List Str) (F : FD) : Prop := L2H.FnH P w K mg base (L2N.CX P w) k f fd ps (spOf K mg ps.length F)
section
variable {P : Program} {w : World} {K : PySem.W.Frag} {mg : Str → Option Value} {base : Heap}
theorem fn_okH {x qual : Str} {st : Stmt} {f : Addr} {fd : FuncData} {N ps : List Str} {k : Nat} {body : SDen} (F : Fun K x qual st f fd) (S : FnScope N ps (defScope st)) (hN : ps.length ≤ N.length)
    (hb : ∀ (cdv : Value) (A : Around) (outer : List PySem.Env) (s : Shared) (H : Hp) (E : XK) (p : Addr × Obj), L2H.RoomH k (A.deeper (envOfC qual (defScope st) s.heap.objs.size f cdv)) → L2H.HotC (L2H.cxH (L2N.CX P w) P w K mg base N qual (defScope st) f cdv A outer s H E p) →
      L2N.Takes (L2H.cxH (L2N.CX P w) P w K mg base N qual (defScope st) f cdv A outer s H E p) (wE E) → SSs (L2H.cxH (L2N.CX P w) P w K mg base N qual (defScope st) f cdv A outer s H E p) (wE E) (defBody st) body) :
    FnZH P w K mg base (k + 1) f fd ps (fnF N.length body) := by
  obtain ⟨oc, od, kV, doc, pm, an, cdv, ct, osl, rfl, lk, hcd⟩ := F.ex
  refine L2H.fn_ofH lk hcd S (fun vs H Q E h => h.1) fun A outer s H vs Q E p hot hr h => ?_
  refine ⟨_, hb cdv A outer s H E p hr ⟨p, hot, List.mem_singleton.mpr rfl⟩ (L2N.takes_of rfl rfl rfl rfl), ?_⟩
  obtain ⟨hl, ι, ds, S0, sr, r, q⟩ := h
  refine ⟨ι, _, S0, sr, er_start r (by rw [hl]; exact hN), ?_⟩
  unfold fnF at q
  show PostS K mg (wE E) ι H (body (ds.map some ++ List.replicate (N.length - ds.length) none) S0) _
  cases z : body (ds.map some ++ List.replicate (N.length - ds.length) none) S0 with
  | nx e S' => rw [z] at q; exact fun ι' H' σ' e1 s1 _ => q ι' H' .non e1 s1 .non
  | rt d S' => rw [z] at q; exact q
  | ex c fs e S' => rw [z] at q; exact fun ι' H' σ' dd C gs e1 s1 _ => q ι' H' dd C gs e1 s1
  | bk e S' => rw [z] at q; exact q.elim
  | ct e S' => rw [z] at q; exact q.elim
  | bad => rw [z] at q; exact q.elim
theorem fn_badH {f : Addr} {fd : FuncData} {ps : List Str} {k : Nat} : FnZH P w K mg base k f fd ps (fun _ _ => .bad) :=
  ⟨fun vs H Q E h => h.1, fun A outer s H args us vs Q E p hr hot hp e0 hb rv h => by
    obtain ⟨_, ι, ds, S, _, _, q⟩ := h
    exact q.elim⟩
end
section
variable {X : Cx} {W : WX} {k : Nat} {f : Addr} {fd : FuncData} {ps : List Str} {F : FD} {us : List Value} {x : Str} {p pos : Pos} {e : Expr} {es : List Expr} {da : DenA}
theorem e_callH {n : Nat} (Fk : FnZH X.prog X.w X.K X.mg X.base k f fd ps F) (hr : L2H.RoomH k X.A) (hot : L2H.HotC X) (hm : X.mg x = some (.ref f)) (hk : PySem.W.keepIn X.K (.ref f) = true) (hb : Binds X.K fd ps []) (tk : L2N.Takes X W) (ha : AA X W (e :: es) da) (hn : ps.length = n := by rfl) (hg : Gl X x := by rfl)
    (hdb : (x == ("__debug__" : Str)) = false := by decide) (he : starEach (e :: es) X.env = (false, eval e X.env) :: starEach es X.env := by rfl) (hpl : (backTo pos (starEach es X.env)).any (·.1) = false := by rfl) :
    EE X W (.Call (.Name x p) (e :: es) [] pos) (dCall (arity n F) [] da) := by
  subst hn
  refine PE.imp (L2H.pe_callH (E := WE W) Fk hr hot hg hm hk hb (fun σ => L2N.passAt tk σ) ha hdb he hpl) fun σ H Q h => ?_
  obtain ⟨ι, env, S, s, er, q⟩ := h
  refine ⟨ι, env, S, s, er, (Post.bind (Rel' := Rps X.K) q).mono ?_⟩
  rintro xs H1 ⟨ι1, ds, S1, e1, s1, r1, p1⟩
  rw [List.append_nil] at p1
  unfold arity at p1
  split at p1
  · rename_i hl
    exact ⟨by rw [r1.length]; exact hl, ι1, ds, S1, s1, r1, Post.wish (E := WE W σ) p1 fun _ _ _ h => h⟩
  · exact p1.elim
end
section
variable {X : Cx} {W : WX} {tg : Expr} {pos p : Pos}
structure PIHZ (X : Cx) (W : WX) (tg e : Expr) (d : DenI) : Prop where
  run : L2H.PIH X tg e (rdI X.K X.mg W d)
theorem i_rng1H {a : Expr} {da : DenA} (hg : Gl X "range") (hm : X.mg "range" = none) (ha : AA X W [a] da) (hs : starEach [a] X.env = [(false, eval a X.env)] := by rfl) : PIHZ X W tg (.Call (.Name "range" p) [a] [] pos) (iRng1 da) :=
  ⟨⟨fun pins s σ H R I h => (L2H.pi_range1H hg hm ha hs).run pins s σ H R I (rd_rng1 h)⟩⟩
theorem s_forH {iter : Expr} {body : List Stmt} {src : DenI} {t : Tg} {db : SDen} (hot : L2H.HotC X) (hi : PIHZ X W tg iter src) (hg : GG X tg t) (hb : SSs X W body db) (hp : PassesOwn (model X.prog X.w) X.A X.env X.xe) (hs : ∀ x, foldedSetIterable iter X.env x = pure x := by intro _; rfl) :
    SS X W (.For tg iter body [] pos) (sFor src t db) := PS.imp (L2H.ps_forH hp hot hi.run hg hb hs) fun _ _ _ h => rd_for h
end
end
end Z
end

section
set_option Elab.async false
set_option linter.all false
set_option maxRecDepth 100000
set_option maxHeartbeats 1000000
namespace Z
theorem lcGo_fm {t : Tg} {c : DenT} {elt : Den} {env : Env} {S : Sto} {g : Sto → Prop} (hg : g S) (p : D → Bool) (f : D → D) : ∀ (xs acc : List D), acc.length + xs.length ≤ 1000 →
    (∀ x ∈ xs, ∃ e, t.run x env = some e ∧ c e S = .ok (p x) S ∧ (p x = true → elt e S = .ok (f x) S)) → lcGo g t c elt env xs acc S = .ok (acc ++ (xs.filter p).map f) S
  | [], acc, _, _ => by rw [lcGo, if_pos hg]; simp
  | x :: xs, acc, hl, h => by
    obtain ⟨e, h1, h2, h3⟩ := h x List.mem_cons_self
    rw [lcGo, if_pos hg, h1]
    cases hp : p x with
    | true =>
      rw [hp] at h2
      simp only [h2, h3 hp, if_true]
      rw [if_pos (of_eq_true (sz_lt (by simp only [List.length_cons] at hl; omega))), lcGo_fm hg p f xs (acc ++ [f x]) (by simp only [List.length_append, List.length_cons, List.length_nil] at hl ⊢; omega) fun y hy => h y (List.mem_cons_of_mem _ hy)]
      simp [hp]
    | false =>
      rw [hp] at h2
      simp only [h2]
      rw [if_neg (by simp), lcGo_fm hg p f xs acc (by simp only [List.length_cons] at hl; omega) fun y hy => h y (List.mem_cons_of_mem _ hy)]
      simp [hp]
theorem dLc_fm {cl : Bool} {src : DenI} {vs : List Nat} {t : Tg} {c : DenT} {elt : Den} {env : Env} {S S1 : Sto} {xs : List D} {g : Sto → Prop} (p : D → Bool) (f : D → D) (hs : src env S = .ok (xs, g) S1) (hg : g S1) (hl : xs.length ≤ 1000)
    (h : ∀ x ∈ xs, ∃ e, t.run x (wipeE env vs) = some e ∧ c e S1 = .ok (p x) S1 ∧ (p x = true → elt e S1 = .ok (f x) S1)) : dLc cl src vs t c elt env S = lcEnd cl ((xs.filter p).map f) S1 := by
  unfold dLc
  rw [hs, R.bind_ok, lcGo_fm hg p f xs [] (by simpa using hl) h, R.bind_ok, List.nil_append]
theorem dLc_map {cl : Bool} {src : DenI} {vs : List Nat} {t : Tg} {elt : Den} {env : Env} {S S1 : Sto} {xs : List D} {g : Sto → Prop} (f : D → D) (hs : src env S = .ok (xs, g) S1) (hg : g S1) (hl : xs.length ≤ 1000)
    (h : ∀ x ∈ xs, ∃ e, t.run x (wipeE env vs) = some e ∧ elt e S1 = .ok (f x) S1) : dLc cl src vs t tYesD elt env S = lcEnd cl (xs.map f) S1 := by
  have k := dLc_fm (cl := cl) (vs := vs) (c := tYesD) (elt := elt) (t := t) (fun _ => true) f hs hg hl fun x hx => by
    obtain ⟨e, h1, h2⟩ := h x hx
    exact ⟨e, h1, rfl, fun _ => h2⟩
  rw [k, List.filter_eq_self.mpr fun _ _ => rfl]
/-- a comprehension whose items change the store -/
theorem lcGo_ex {t : Tg} {elt : Den} {env : Env} {g : Sto → Prop} (I : Sto → Prop) (P : D → D → Prop) (hg : ∀ S, I S → g S) : ∀ (xs acc : List D) (S : Sto), I S → acc.length + xs.length ≤ 1000 →
    (∀ x ∈ xs, ∀ S, I S → ∃ e y S', t.run x env = some e ∧ elt e S = .ok y S' ∧ I S' ∧ P x y) → ∃ ys S', lcGo g t tYesD elt env xs acc S = .ok (acc ++ ys) S' ∧ I S' ∧ ys.length = xs.length ∧ ∀ (i : Nat) (x y : D), xs[i]? = some x → ys[i]? = some y → P x y
  | [], acc, S, hI, _, _ => ⟨[], S, by rw [lcGo, if_pos (hg S hI), List.append_nil], hI, rfl, fun i x y h _ => by simp at h⟩
  | x :: xs, acc, S, hI, hl, h => by
    obtain ⟨e, y, S1, h1, h2, h3, h4⟩ := h x List.mem_cons_self S hI
    obtain ⟨ys, S2, k1, k2, k3, k4⟩ := lcGo_ex I P hg xs (acc ++ [y]) S1 h3 (by simp only [List.length_append, List.length_cons, List.length_nil] at hl ⊢; omega) fun z hz => h z (List.mem_cons_of_mem _ hz)
    refine ⟨y :: ys, S2, ?_, k2, by simp [k3], fun i a b ha hb => ?_⟩
    · rw [lcGo, if_pos (hg S hI), h1]
      have e1 : tYesD e S = .ok true S := rfl
      simp only [e1, h2, if_true]
      rw [if_pos (of_eq_true (sz_lt (by simp only [List.length_cons] at hl; omega))), k1]
      simp
    · cases i with
      | zero =>
        rw [List.getElem?_cons_zero] at ha hb
        cases ha; cases hb; exact h4
      | succ i =>
        rw [List.getElem?_cons_succ] at ha hb
        exact k4 i a b ha hb
end Z
end

section
set_option Elab.async false
set_option linter.all false
set_option maxRecDepth 100000
set_option maxHeartbeats 1000000
namespace Z
noncomputable section
open PySem PySem.Spec PyProof.Rows L2
/-! ### < and > of data that are alike; max of a list of such -/
def LtOk (p q : PyData) : Prop := PySem.W.alike p q = true ∧ p ≠ PyData.none ∧ SeqAt.shaped p = true ∧ SeqAt.shaped q = true
instance (p q : PyData) : Decidable (LtOk p q) := Classical.propDecidable _
def ordN (f : PyData → PyData → Bool) (x y : D) (S : Sto) : R D := match pyS S x, pyS S y with
  | some p, some q => if LtOk p q then .ok (.bl (f p q)) S else .bad
  | _, _ => .bad
def fLtD (x y : D) (S : Sto) : R D := match x with
  | .int _ => fLt x y S
  | _ => ordN (fun p q => PySem.W.dataLt p q) x y S
def fGtD (x y : D) (S : Sto) : R D := match x with
  | .int _ => fGt x y S
  | _ => ordN (fun p q => PySem.W.dataLt q p) x y S
def rOrdD (K : PySem.W.Frag) (f : PyData → PyData → Bool) : R2 := fun x y H Q => ∃ d e, Dp K H x d ∧ Dp K H y e ∧ LtOk d e ∧ Q (.bl (f d e)) H
section
variable {X : Cx} {K : PySem.W.Frag}
theorem op_ltD (hu : X.A.units + 64 < cLine) : OpR X (compareOp .Lt) (rOrdD X.K fun p q => PySem.W.dataLt p q) := by
  intro pins s σ H x y v u Q I rx ry ⟨d, e, hd, he, hl, q⟩
  obtain ⟨as, r1⟩ := Dp.reads I d x v hd rx
  obtain ⟨bs, r2⟩ := Dp.reads I e y u he ry
  exact PySem.W.lt_data r1 r2 hl.1 hl.2.1 (SeqAt.room_of_shaped hl.2.2.1 hu) ⟨.bl _, H, I, rfl, q⟩
theorem op_gtD (hu : X.A.units + 64 < cLine) : OpR X (compareOp .Gt) (rOrdD X.K fun p q => PySem.W.dataLt q p) := by
  intro pins s σ H x y v u Q I rx ry ⟨d, e, hd, he, hl, q⟩
  obtain ⟨as, r1⟩ := Dp.reads I d x v hd rx
  obtain ⟨bs, r2⟩ := Dp.reads I e y u he ry
  exact PySem.W.gt_data r1 r2 hl.1 hl.2.1 (SeqAt.room_of_shaped hl.2.2.1 hu) ⟨.bl _, H, I, rfl, q⟩
theorem ordN_ok {mg : Str → Option Value} {W : WX} {σ : L2.St} {ι : Em} {H : Hp} {S : Sto} {x y : V} {dx dy : D} {Q : VK} {f : PyData → PyData → Bool} (s : Sr K H ι S) (rx : Rp K H ι x dx) (ry : Rp K H ι y dy) (p : Post K mg (Rp K) W σ ι H (ordN f dx dy S) Q) :
    rOrdD K f x y H Q := by
  unfold ordN at p
  split at p
  · rename_i d e h1 h2
    split at p
    · rename_i hl
      exact ⟨d, e, dpS_of s rx h1, dpS_of s ry h2, hl, p.ret s (.bl _)⟩
    · exact p.elim
  · exact p.elim
def rLtZ (K : PySem.W.Frag) : R2 := fun x y H Q => (rI0 fun i j => .bl (decide (i < j))) x y H Q ∨ (rOrdD K fun p q => PySem.W.dataLt p q) x y H Q
def rGtZ (K : PySem.W.Frag) : R2 := fun x y H Q => (rI0 fun i j => .bl (decide (i > j))) x y H Q ∨ (rOrdD K fun p q => PySem.W.dataLt q p) x y H Q
theorem oLtD (hu : X.A.units + 64 < cLine) : OpR X (compareOp .Lt) (rLtZ X.K) := op_lt.or (op_ltD hu)
theorem oGtD (hu : X.A.units + 64 < cLine) : OpR X (compareOp .Gt) (rGtZ X.K) := op_gt.or (op_gtD hu)
theorem sLtD : OpS K (rLtZ K) fLtD := by
  intro mg W σ ι H S x y dx dy Q s rx ry p
  cases dx with
  | int i => exact .inl (sLt mg W σ ι H S x y _ dy Q s rx ry p)
  | _ => exact .inr (ordN_ok s rx ry p)
theorem sGtD : OpS K (rGtZ K) fGtD := by
  intro mg W σ ι H S x y dx dy Q s rx ry p
  cases dx with
  | int i => exact .inl (sGt mg W σ ι H S x y _ dy Q s rx ry p)
  | _ => exact .inr (ordN_ok s rx ry p)
end
/-- pairs of ints -/
theorem lt_pair (a b c d : Int) : PySem.W.dataLt (.tuple [.int a, .int b]) (.tuple [.int c, .int d]) = decide (a < c ∨ (a = c ∧ b < d)) := by
  rw [PySem.W.dataLt_tuple]
  simp only [PySem.W.keyToksAll, PySem.W.keyToks, List.cons_append, List.nil_append]
  have sf : ∀ (x : Int ⊕ List Nat) (r t : List (Int ⊕ List Nat)), lexLt itemOrd (x :: r) (x :: t) = lexLt itemOrd r t := fun x r t => lex_self (O := itemOrd) x r t
  rw [sf]
  by_cases h : a = c
  · subst h
    rw [sf, sf]
    by_cases h2 : b = d
    · subst h2
      rw [sf, sf]
      simp [PyProof.Rows.lexLt]
    · rw [lex_diff (O := itemOrd) (fun z => h2 (Sum.inl.inj z))]
      show decide (b < d) = _
      simp
  · rw [lex_diff (O := itemOrd) (fun z => h (Sum.inl.inj z))]
    show decide (a < c) = _
    simp [h]
end
end Z
end

section
set_option Elab.async false
set_option linter.all false
set_option maxRecDepth 100000
set_option maxHeartbeats 1000000
namespace Z
noncomputable section
open PySem PySem.Spec PyProof.Rows L2
/-! ### min and max by the answers of an own def -/
def in1 (X : Cx) : Cx := { X with A := X.A.in1 }
section
variable {X : Cx} {pins : List (Addr × Obj)} {σ : L2.St} {H : Hp} {s : Shared}
theorem ok_in1 (o : X.Ok) : (in1 X).Ok := { mod := o.mod, kind := o.kind, glob := o.glob, blt := o.blt, above := o.above, inj := o.inj, has := o.has, cab := o.cab, hd := o.hd, frames := o.frames, stk := o.stk, exf := o.exf, bs := o.bs, bsz := o.bsz, noex := o.noex, exfs := o.exfs, funs := o.funs, frf := o.frf }
theorem inv_in1 (I : Inv X pins σ H s) : Inv (in1 X) pins σ H s := ⟨ok_in1 I.ok, I.os, I.bare, I.base, I.loc, I.cell, I.free, I.freeC, I.pin, I.hok, I.len⟩
theorem inv_out (o : X.Ok) (I : Inv (in1 X) pins σ H s) : Inv X pins σ H s := ⟨o, I.os, I.bare, I.base, I.loc, I.cell, I.free, I.freeC, I.pin, I.hok, I.len⟩
theorem fp_more {b c : Addr} {h : Heap} (f : FpOk X pins H b) (n : c ≠ b) : FpOk X (pins ++ pinsAt [c] h) H b := by
  obtain ⟨f0, f1, f2, f3, f4, f5⟩ := f
  refine ⟨f0, f1, f2, f3, f4, fun p hp z => ?_⟩
  rcases List.mem_append.mp hp with z1 | z1
  · exact f5 p (List.mem_append_left _ z1) z
  · rcases List.mem_append.mp z1 with z2 | z2
    · exact f5 p (List.mem_append_right _ z2) z
    · have := (of_pinsAt z2).1
      simp only [List.mem_cons, List.not_mem_nil, or_false] at this
      exact n (this.symm.trans z)
end
/-- the list that holds the best item and its key -/
def boxO (l : List Value) (c : Nat) : Obj := { cls := .type "list", dict := none, data := .seq l.toArray c, slots := #[] }
/-- what the walk and the def's answers give, turn by turn -/
structure KeyW (X : Cx) (J : It) (n : Nat) (sp : Sp) (bt : PyData → PyData → Bool) (W : Nat → V → V → Hp → Prop) : Prop where
  go : ∀ i x k H, i < n → W i x k H → J.go i H
  stop : ∀ x k H, W n x k H → J.stop n H
  step : ∀ i x k H y H', i < n → W i x k H → J.yld i H y H' → sp [y] H' (fun k' H2 => ∃ d e, Dp X.K H2 k' d ∧ Dp X.K H2 k e ∧ LtOk d e ∧ W (i + 1) (if bt d e then y else x) (if bt d e then k' else k) H2) (fun _ _ _ => False)
/-- the def runs within the built-in -/
def Runs (X : Cx) (q : Addr) (sp : Sp) : Prop := ∀ (pins : List (Addr × Obj)) (σ : L2.St) (H : Hp) (s : Shared) (y : V) (u : Value) (Q : VK) (E : Value → Shared → Prop), Inv (in1 X) pins σ H s → RelV y u → sp [y] H Q (fun _ _ _ => False) →
  wpAny (model X.prog X.w) X.A.in1 (call (.ref q) [u]) (EP (in1 X) pins σ Q) E s
theorem runs_of {X : Cx} {q : Addr} {fd : FuncData} {x : Str} {k : Nat} {F : FD} (Fk : FnZ X.prog X.w X.K X.mg X.base k q fd [x] F) (hr : Room (k + 1) X.A) (hb : Binds X.K fd [x] []) : Runs X q (spOf X.K X.mg 1 F) := by
  intro pins σ H s y u Q E I r h
  have Iw := I.wish E
  have z := run_fn (X := (in1 X).wish E) (E := fun _ _ _ => False) (vs := [y]) (us := [u]) (dvs := []) (Q := Q) Fk hr.in1 hb .nil passN Iw (.cons r .nil) h
  exact wpAny_mono z (fun v s' ⟨w, H', I', r', q'⟩ => ⟨w, H', I'.unwish, r', q'⟩) fun _ _ e => e
theorem let1 {P : Program} {w : World} {A : Around} {α : Type} {m : Sem α} {x : Str} {p : Pos} {it u : Value} {G : Shared → Prop} {Q : α → Shared → Prop} {E : Value → Shared → Prop} {s : Shared}
    (h : wpAny (model P w) A (letOwnedTupleGo (.Name x p) it u) (fun _ s2 => G s2) (fun _ _ => False) s) (k : ∀ s2, G s2 → wpAny (model P w) A m Q E s2) : wpAny (model P w) A m Q E s := by
  have e : m = (letOwnedTupleGo (.Name x p) it u >>= fun _ => m) := by
    have z : letOwnedTupleGo (.Name x p) it u = pure () := rfl
    rw [z, pure_bind]
  rw [e]
  exact wpAny_bind (wpAny_mono h (fun _ s2 g => k s2 g) fun _ _ z => z.elim)
section
variable {X : Cx} {J : It} {n : Nat} {sp : Sp} {W : Nat → V → V → Hp → Prop} {it q Sd : Addr} {fp : List Addr} {tn : Nat → Heap → Prop} {xn : Str} {xp : Pos} {pins : List (Addr × Obj)} {σ : L2.St} {R : Result → Shared → Prop}
/-- the box is written: all else stands -/
theorem inv_box {H : Hp} {s : Shared} {h' : Heap} {t : Nat} (I : Inv X pins σ H s) (f : FpOk X pins H Sd) (k : ∀ b o, b ≠ Sd → s.heap.get? b = some o → h'.get? b = some o) : Inv X pins σ H { s with heap := h', toks := t } := by
  obtain ⟨f0, f1, f2, f3, f4, f5⟩ := f
  exact I.turned k f0 f1 f3 f4 f5
theorem upd_else {h : Heap} {f : Obj → Obj} : ∀ (b : Addr) (o : Obj), b ≠ Sd → h.get? b = some o → (h.update Sd f).get? b = some o := fun b o nb e => by
  rw [← e]; exact Heap.get?_update_other _ _ (Ne.symm nb)
theorem pin_box {H : Hp} {s : Shared} {o : Obj} (I : Inv X pins σ H s) (f : ∀ b ∈ Sd :: fp, FpOk X pins H b) (hd : s.heap.get? Sd = some o) (ho : ∀ v, o.data ≠ .cell v) : Inv (in1 X) (pins ++ pinsAt [Sd] s.heap) σ H s := by
  refine (inv_in1 I).pinned (fun b hb => ?_) fun b hb => ?_
  · simp only [List.mem_cons, List.not_mem_nil, or_false] at hb
    rw [hb]; exact f Sd List.mem_cons_self
  · simp only [List.mem_cons, List.not_mem_nil, or_false] at hb
    rw [hb]; exact ⟨o, hd, ho⟩
theorem fp_box {H : Hp} {h : Heap} (hS : Sd ∉ fp) (f : ∀ b ∈ Sd :: fp, FpOk X pins H b) : ∀ b ∈ fp, FpOk (in1 X) (pins ++ pinsAt [Sd] h) H b := fun b hb => fp_more (X := in1 X) (f b (List.mem_cons_of_mem _ hb)) fun z => hS (by rw [z]; exact hb)
theorem got_box {H : Hp} {s s' : Shared} {o : Obj} (hd : s.heap.get? Sd = some o) (I : Inv (in1 X) (pins ++ pinsAt [Sd] s.heap) σ H s') : s'.heap.get? Sd = some o ∧ H Sd = none := by
  have z := I.pin (Sd, o) (List.mem_append_right _ (List.mem_append_right _ (mem_pinsAt List.mem_cons_self hd)))
  exact ⟨z.1, z.2.1⟩
/-- an item of the walk and the def's answer for it -/
theorem key_turn (T : Turn X.prog X.w X.K (.Name xn xp) J fp it tn) (hc : X.calm = true) (C : Runs X q sp) (hS : Sd ∉ fp) {i : Nat} {H : Hp} {s : Shared} {o : Obj} {α : Type} {Qv : V → Hp → V → Hp → Prop} {cont : Value → Value → Sem α} {Q : α → Shared → Prop} {E : Value → Shared → Prop}
    {Ea : Value → Sem (Option Value)} {Eb : Value → Value → Sem Value} {K1 : Option Value → Sem α}
    (I : Inv X pins σ H s) (st : tn i s.heap) (f : ∀ b ∈ Sd :: fp, FpOk X pins H b) (hd : s.heap.get? Sd = some o) (ho : ∀ v, o.data ≠ .cell v) (go : J.go i H)
    (h : ∀ y H', J.yld i H y H' → sp [y] H' (Qv y H') (fun _ _ _ => False))
    (hQ : ∀ u kx s' y H' k H2, Inv X pins σ H2 s' → tn (i + 1) s'.heap → (∀ b ∈ Sd :: fp, FpOk X pins H2 b) → s'.heap.get? Sd = some o → RelV y u → RelV k kx → Qv y H' k H2 → wpAny (model X.prog X.w) X.A.in1 (cont u kx) Q E s')
    (hK : ∀ u, K1 (some u) = (tryCatch (holding [u] (call (.ref q) [u])) (Eb u) >>= cont u)) : wpAny (model X.prog X.w) X.A.in1 (tryCatch (pyNext (.ref it)) Ea >>= K1) Q E s := by
  have I0 := pin_box I f hd ho
  refine wpAny_bind (wpAny_tryCatch (wpAny_mono (T.item (in1 X) rfl rfl rfl hc i _ s σ H (fun _ _ => False) I0 (fp_box hS f) st go) (fun r s1 hr => ?_) fun _ _ z => z.elim))
  obtain ⟨u, rfl, h4⟩ := hr
  rw [hK u]
  refine let1 h4 fun s5 h5 => ?_
  obtain ⟨y, H5, I5, ry, hy, st5, fr5⟩ := h5
  obtain ⟨oS, nS⟩ := got_box hd I5
  have I5u : Inv (in1 X) pins σ H5 s5 := I5.unpinned
  have g5 : ∀ b ∈ Sd :: fp, FpOk (in1 X) pins H5 b := fun b hb => ⟨by
    rcases List.mem_cons.mp hb with z | z
    · rw [z]; exact nS
    · exact fr5 b z, (f b hb).2⟩
  have ob5 : ∀ b ∈ Sd :: fp, ∃ o', s5.heap.get? b = some o' ∧ ∀ v, o'.data ≠ .cell v := fun b hb => by
    rcases List.mem_cons.mp hb with z | z
    · rw [z]; exact ⟨o, oS, ho⟩
    · exact T.obj _ _ st5 b z
  have I6 := I5u.pinned g5 ob5
  refine wpAny_bind (wpAny_tryCatch (wpAny_holding (wpAny_mono (C _ σ H5 s5 y u _ _ I6 ry (h y H5 hy)) (fun kx s6 h6 => ?_) fun _ _ z => z)))
  obtain ⟨k, H6, I7, rk, qk⟩ := h6
  have pn : ∀ b ∈ Sd :: fp, ∀ o', s5.heap.get? b = some o' → s6.heap.get? b = some o' ∧ H6 b = none := fun b hb o' e => by
    have z := I7.pin (b, o') (List.mem_append_right _ (List.mem_append_right _ (mem_pinsAt hb e)))
    exact ⟨z.1, z.2.1⟩
  refine hQ u kx s6 y H5 k H6 (inv_out I.ok I7.unpinned) (T.keep _ _ _ st5 fun b hb o' e => (pn b (List.mem_cons_of_mem _ hb) o' e).1) (fun b hb => ?_) (pn Sd List.mem_cons_self o oS).1 ry rk qk
  obtain ⟨o', e, _⟩ := ob5 b hb
  exact ⟨(pn b hb o' e).2, (f b hb).2⟩

/-! #### max -/
theorem max_rest (T : Turn X.prog X.w X.K (.Name xn xp) J fp it tn) (hc : X.calm = true) (C : Runs X q sp) (hS : Sd ∉ fp) (hu : X.A.units + 1 + 64 < cLine) (Wk : KeyW X J n sp (fun d e => PySem.W.dataLt e d) W)
    (hR : ∀ x' k' H' s' vb', W n x' k' H' → Inv X pins σ H' s' → RelV x' vb' → R (.ok (.ret vb')) s') :
    ∀ (m i : Nat) (x k : V) (vb kb : Value) (H : Hp) (s : Shared) (c : Nat), n - i = m → i ≤ n → Inv X pins σ H s → tn i s.heap → (∀ b ∈ Sd :: fp, FpOk X pins H b) → s.heap.get? Sd = some (boxO [vb, kb] c) → RelV x vb → RelV k kb → W i x k H →
      codeAny (model X.prog X.w) X.A (.builtin "max.loop" ⟨[.ref it, .ref q, .ref Sd], []⟩) R s := by
  have nm : (toString "max" ++ toString ".loop" : String) = "max.loop" := by decide
  have nc : ∀ (l : List Value) (c : Nat) v, (boxO l c).data ≠ .cell v := fun l c v z => nomatch z
  intro m
  induction m with
  | zero =>
    intro i x k vb kb H s c hm hi I st f hd rx rk w0
    obtain rfl : i = n := by omega
    refine codeAny_builtin (F.entry_max_loop) (?_ : _); rw [(Around.under_plainId F.plain_max_loop _ : _)]
    show wpAny _ X.A.in1 (seqItems? (.ref Sd) >>= _) _ _ s
    refine wpAny_bind (wpAny_seqItems hd rfl ?_)
    show wpAny _ X.A.in1 (tryCatch (pyNext (.ref it)) _ >>= _) _ _ s
    refine wpAny_bind (wpAny_tryCatch (wpAny_mono (T.done (in1 X) rfl rfl rfl hc i _ s σ H (fun _ _ => False) (pin_box I f hd (nc _ _)) (fp_box hS f) st (Wk.stop x k H w0)) (fun r s1 hr => ?_) fun _ _ z => z.elim))
    obtain ⟨rfl, I1⟩ := hr
    obtain ⟨oS, _⟩ := got_box hd I1
    show wpAny _ X.A.in1 (updateSeq Sd (fun _ => #[]) >>= _) _ _ _
    refine wpAny_bind (wpAny_updateSeq oS rfl (wpAny_bind (wpAny_letGo (wpAny_pure ?_))))
    exact hR x k H _ vb w0 (inv_box (inv_out I.ok I1.unpinned) (f Sd List.mem_cons_self) upd_else) rx
  | succ m ih =>
    intro i x k vb kb H s c hm hi I st f hd rx rk w0
    have hlt : i < n := by omega
    refine codeAny_builtin (F.entry_max_loop) (?_ : _); rw [(Around.under_plainId F.plain_max_loop _ : _)]
    show wpAny _ X.A.in1 (seqItems? (.ref Sd) >>= _) _ _ s
    refine wpAny_bind (wpAny_seqItems hd rfl ?_)
    show wpAny _ X.A.in1 (tryCatch (pyNext (.ref it)) _ >>= _) _ _ s
    refine key_turn T hc C hS I st f hd (nc _ _) (Wk.go i x k H hlt w0) (fun y H' hy => Wk.step i x k H y H' hlt w0 hy) (fun u kx s6 y H5 k' H6 I6 st6 f6 hd6 ry rk' qk => ?_) (fun u => rfl)
    obtain ⟨d, e, dd, de, hl, w1⟩ := qk
    obtain ⟨as, r1⟩ := Dp.reads I6 d k' kx dd rk'
    obtain ⟨bs, r2⟩ := Dp.reads I6 e k kb de rk
    show wpAny _ X.A.in1 (tryCatch (holding [u, kx] (richCompare .Gt kx kb >>= _)) _ >>= _) _ _ _
    refine wpAny_bind (wpAny_tryCatch (wpAny_holding (wpAny_bind ?_)))
    refine PySem.W.rcGt_alike d e X.A.in1 s6 kx kb as bs r1 r2 hl.1 hl.2.1 (SeqAt.room_of_shaped hl.2.2.1 hu) _ _ _ _ ?_
    refine wpAny_bind (wpAny_holding (wpAny_truthy_bool (wpAny_bind (wpAny_letGo (wpAny_pure ?_)))))
    cases hb : PySem.W.dataLt e d with
    | true =>
      simp only [hb, if_true] at w1 ⊢
      refine wpAny_bind (wpAny_updateSeq hd6 rfl (wpAny_bind (wpAny_letGo ?_)))
      rw [nm]
      have gg : (s6.heap.update Sd (Obj.mapSeq fun _ => #[u, kx])).get? Sd = some (boxO [u, kx] _) := Heap.get?_update_self (Obj.mapSeq fun _ => #[u, kx]) hd6 rfl
      have nb : ∀ b ∈ fp, b ≠ Sd := fun b hb z => hS (by rw [← z]; exact hb)
      refine wpAny_pure ⟨plainId_quiet F.plain_max_loop _, ih (i + 1) y k' u kx H6 _ _ (by omega) hlt (inv_box I6 (f6 Sd List.mem_cons_self) upd_else) (T.keep _ _ _ st6 fun b hb o e => upd_else b o (nb b hb) e) f6 gg ry rk' w1⟩
    | false =>
      simp only [hb, Bool.false_eq_true, if_false] at w1 ⊢
      refine wpAny_bind (wpAny_letGo ?_)
      rw [nm]
      exact wpAny_pure ⟨plainId_quiet F.plain_max_loop _, ih (i + 1) x k vb kb H6 s6 c (by omega) hlt I6 st6 f6 hd6 rx rk w1⟩
/-- from the empty box on: the first item begins -/
theorem max_all (T : Turn X.prog X.w X.K (.Name xn xp) J fp it tn) (hc : X.calm = true) (C : Runs X q sp) (hS : Sd ∉ fp) (hu : X.A.units + 1 + 64 < cLine) (Wk : KeyW X J n sp (fun d e => PySem.W.dataLt e d) W)
    (hR : ∀ x' k' H' s' vb', W n x' k' H' → Inv X pins σ H' s' → RelV x' vb' → R (.ok (.ret vb')) s') {H : Hp} {s : Shared} {c : Nat} (hn : 1 ≤ n)
    (I : Inv X pins σ H s) (st : tn 0 s.heap) (f : ∀ b ∈ Sd :: fp, FpOk X pins H b) (hd : s.heap.get? Sd = some (boxO [] c)) (go : J.go 0 H) (h0 : ∀ y H', J.yld 0 H y H' → sp [y] H' (fun k' H2 => W 1 y k' H2) (fun _ _ _ => False)) :
    codeAny (model X.prog X.w) X.A (.builtin "max.loop" ⟨[.ref it, .ref q, .ref Sd], []⟩) R s := by
  have nm : (toString "max" ++ toString ".loop" : String) = "max.loop" := by decide
  have nc : ∀ (l : List Value) (c : Nat) v, (boxO l c).data ≠ .cell v := fun l c v z => nomatch z
  refine codeAny_builtin (F.entry_max_loop) (?_ : _); rw [(Around.under_plainId F.plain_max_loop _ : _)]
  show wpAny _ X.A.in1 (seqItems? (.ref Sd) >>= _) _ _ s
  refine wpAny_bind (wpAny_seqItems hd rfl ?_)
  show wpAny _ X.A.in1 (tryCatch (pyNext (.ref it)) _ >>= _) _ _ s
  refine key_turn (Qv := fun y _ k' H2 => W 1 y k' H2) T hc C hS I st f hd (nc _ _) go h0 (fun u kx s6 y H5 k' H6 I6 st6 f6 hd6 ry rk' qk => ?_) (fun u => rfl)
  show wpAny _ X.A.in1 (updateSeq Sd (fun _ => #[u, kx]) >>= _) _ _ _
  refine wpAny_bind (wpAny_updateSeq hd6 rfl ?_)
  rw [nm]
  have gg : (s6.heap.update Sd (Obj.mapSeq fun _ => #[u, kx])).get? Sd = some (boxO [u, kx] _) := Heap.get?_update_self (Obj.mapSeq fun _ => #[u, kx]) hd6 rfl
  have nb : ∀ b ∈ fp, b ≠ Sd := fun b hb z => hS (by rw [← z]; exact hb)
  refine wpAny_pure ⟨plainId_quiet F.plain_max_loop _, max_rest T hc C hS hu Wk hR (n - 1) 1 y k' u kx H6 _ _ rfl hn (inv_box I6 (f6 Sd List.mem_cons_self) upd_else) (T.keep _ _ _ st6 fun b hb o e => upd_else b o (nb b hb) e) f6 gg ry rk' qk⟩

/-! #### min -/
theorem min_rest (T : Turn X.prog X.w X.K (.Name xn xp) J fp it tn) (hc : X.calm = true) (C : Runs X q sp) (hS : Sd ∉ fp) (hu : X.A.units + 1 + 64 < cLine) (Wk : KeyW X J n sp (fun d e => PySem.W.dataLt d e) W)
    (hR : ∀ x' k' H' s' vb', W n x' k' H' → Inv X pins σ H' s' → RelV x' vb' → R (.ok (.ret vb')) s') :
    ∀ (m i : Nat) (x k : V) (vb kb : Value) (H : Hp) (s : Shared) (c : Nat), n - i = m → i ≤ n → Inv X pins σ H s → tn i s.heap → (∀ b ∈ Sd :: fp, FpOk X pins H b) → s.heap.get? Sd = some (boxO [vb, kb] c) → RelV x vb → RelV k kb → W i x k H →
      codeAny (model X.prog X.w) X.A (.builtin "min.loop" ⟨[.ref it, .ref q, .ref Sd], []⟩) R s := by
  have nm : (toString "min" ++ toString ".loop" : String) = "min.loop" := by decide
  have nc : ∀ (l : List Value) (c : Nat) v, (boxO l c).data ≠ .cell v := fun l c v z => nomatch z
  intro m
  induction m with
  | zero =>
    intro i x k vb kb H s c hm hi I st f hd rx rk w0
    obtain rfl : i = n := by omega
    refine codeAny_builtin (F.entry_min_loop) (?_ : _); rw [(Around.under_plainId F.plain_min_loop _ : _)]
    show wpAny _ X.A.in1 (seqItems? (.ref Sd) >>= _) _ _ s
    refine wpAny_bind (wpAny_seqItems hd rfl ?_)
    show wpAny _ X.A.in1 (tryCatch (pyNext (.ref it)) _ >>= _) _ _ s
    refine wpAny_bind (wpAny_tryCatch (wpAny_mono (T.done (in1 X) rfl rfl rfl hc i _ s σ H (fun _ _ => False) (pin_box I f hd (nc _ _)) (fp_box hS f) st (Wk.stop x k H w0)) (fun r s1 hr => ?_) fun _ _ z => z.elim))
    obtain ⟨rfl, I1⟩ := hr
    obtain ⟨oS, _⟩ := got_box hd I1
    show wpAny _ X.A.in1 (updateSeq Sd (fun _ => #[]) >>= _) _ _ _
    refine wpAny_bind (wpAny_updateSeq oS rfl (wpAny_bind (wpAny_letGo (wpAny_pure ?_))))
    exact hR x k H _ vb w0 (inv_box (inv_out I.ok I1.unpinned) (f Sd List.mem_cons_self) upd_else) rx
  | succ m ih =>
    intro i x k vb kb H s c hm hi I st f hd rx rk w0
    have hlt : i < n := by omega
    refine codeAny_builtin (F.entry_min_loop) (?_ : _); rw [(Around.under_plainId F.plain_min_loop _ : _)]
    show wpAny _ X.A.in1 (seqItems? (.ref Sd) >>= _) _ _ s
    refine wpAny_bind (wpAny_seqItems hd rfl ?_)
    show wpAny _ X.A.in1 (tryCatch (pyNext (.ref it)) _ >>= _) _ _ s
    refine key_turn T hc C hS I st f hd (nc _ _) (Wk.go i x k H hlt w0) (fun y H' hy => Wk.step i x k H y H' hlt w0 hy) (fun u kx s6 y H5 k' H6 I6 st6 f6 hd6 ry rk' qk => ?_) (fun u => rfl)
    obtain ⟨d, e, dd, de, hl, w1⟩ := qk
    obtain ⟨as, r1⟩ := Dp.reads I6 d k' kx dd rk'
    obtain ⟨bs, r2⟩ := Dp.reads I6 e k kb de rk
    show wpAny _ X.A.in1 (tryCatch (holding [u, kx] (richCompare .Lt kx kb >>= _)) _ >>= _) _ _ _
    refine wpAny_bind (wpAny_tryCatch (wpAny_holding (wpAny_bind ?_)))
    refine PySem.W.rcLt_alike d e X.A.in1 s6 kx kb as bs r1 r2 hl.1 hl.2.1 (SeqAt.room_of_shaped hl.2.2.1 hu) _ _ _ _ ?_
    refine wpAny_bind (wpAny_holding (wpAny_truthy_bool (wpAny_bind (wpAny_letGo (wpAny_pure ?_)))))
    cases hb : PySem.W.dataLt d e with
    | true =>
      simp only [hb, if_true] at w1 ⊢
      refine wpAny_bind (wpAny_updateSeq hd6 rfl (wpAny_bind (wpAny_letGo ?_)))
      rw [nm]
      have gg : (s6.heap.update Sd (Obj.mapSeq fun _ => #[u, kx])).get? Sd = some (boxO [u, kx] _) := Heap.get?_update_self (Obj.mapSeq fun _ => #[u, kx]) hd6 rfl
      have nb : ∀ b ∈ fp, b ≠ Sd := fun b hb z => hS (by rw [← z]; exact hb)
      refine wpAny_pure ⟨plainId_quiet F.plain_min_loop _, ih (i + 1) y k' u kx H6 _ _ (by omega) hlt (inv_box I6 (f6 Sd List.mem_cons_self) upd_else) (T.keep _ _ _ st6 fun b hb o e => upd_else b o (nb b hb) e) f6 gg ry rk' w1⟩
    | false =>
      simp only [hb, Bool.false_eq_true, if_false] at w1 ⊢
      refine wpAny_bind (wpAny_letGo ?_)
      rw [nm]
      exact wpAny_pure ⟨plainId_quiet F.plain_min_loop _, ih (i + 1) x k vb kb H6 s6 c (by omega) hlt I6 st6 f6 hd6 rx rk w1⟩
/-- from the empty box on: the first item begins -/
theorem min_all (T : Turn X.prog X.w X.K (.Name xn xp) J fp it tn) (hc : X.calm = true) (C : Runs X q sp) (hS : Sd ∉ fp) (hu : X.A.units + 1 + 64 < cLine) (Wk : KeyW X J n sp (fun d e => PySem.W.dataLt d e) W)
    (hR : ∀ x' k' H' s' vb', W n x' k' H' → Inv X pins σ H' s' → RelV x' vb' → R (.ok (.ret vb')) s') {H : Hp} {s : Shared} {c : Nat} (hn : 1 ≤ n)
    (I : Inv X pins σ H s) (st : tn 0 s.heap) (f : ∀ b ∈ Sd :: fp, FpOk X pins H b) (hd : s.heap.get? Sd = some (boxO [] c)) (go : J.go 0 H) (h0 : ∀ y H', J.yld 0 H y H' → sp [y] H' (fun k' H2 => W 1 y k' H2) (fun _ _ _ => False)) :
    codeAny (model X.prog X.w) X.A (.builtin "min.loop" ⟨[.ref it, .ref q, .ref Sd], []⟩) R s := by
  have nm : (toString "min" ++ toString ".loop" : String) = "min.loop" := by decide
  have nc : ∀ (l : List Value) (c : Nat) v, (boxO l c).data ≠ .cell v := fun l c v z => nomatch z
  refine codeAny_builtin (F.entry_min_loop) (?_ : _); rw [(Around.under_plainId F.plain_min_loop _ : _)]
  show wpAny _ X.A.in1 (seqItems? (.ref Sd) >>= _) _ _ s
  refine wpAny_bind (wpAny_seqItems hd rfl ?_)
  show wpAny _ X.A.in1 (tryCatch (pyNext (.ref it)) _ >>= _) _ _ s
  refine key_turn (Qv := fun y _ k' H2 => W 1 y k' H2) T hc C hS I st f hd (nc _ _) go h0 (fun u kx s6 y H5 k' H6 I6 st6 f6 hd6 ry rk' qk => ?_) (fun u => rfl)
  show wpAny _ X.A.in1 (updateSeq Sd (fun _ => #[u, kx]) >>= _) _ _ _
  refine wpAny_bind (wpAny_updateSeq hd6 rfl ?_)
  rw [nm]
  have gg : (s6.heap.update Sd (Obj.mapSeq fun _ => #[u, kx])).get? Sd = some (boxO [u, kx] _) := Heap.get?_update_self (Obj.mapSeq fun _ => #[u, kx]) hd6 rfl
  have nb : ∀ b ∈ fp, b ≠ Sd := fun b hb z => hS (by rw [← z]; exact hb)
  refine wpAny_pure ⟨plainId_quiet F.plain_min_loop _, min_rest T hc C hS hu Wk hR (n - 1) 1 y k' u kx H6 _ _ rfl hn (inv_box I6 (f6 Sd List.mem_cons_self) upd_else) (T.keep _ _ _ st6 fun b hb o e => upd_else b o (nb b hb) e) f6 gg ry rk' qk⟩

end
section
variable {P : Program} {w : World} {A : Around} {E : Value → Shared → Prop} {s : Shared} {q : Addr} {Q : Value → Shared → Prop}
/-- the answer of a built-in's own loop -/
def RetR (Q : Value → Shared → Prop) (E : Value → Shared → Prop) (r : Result) (s' : Shared) : Prop := match r with
  | .ok (.ret v) => Q v s'
  | .ok _ => False
  | .error e => E e s'
theorem argsk_max2 (a b v : Value) : argsOk "max" ⟨[a, b], [(Str.ofString "key", v)]⟩ := by unfold argsOk; kernel_rfl
theorem call_maxK1 {x : Value} (h : wpAny (model P w) A.in1 (pyIter x) (fun itv s2 => codeAny (model P w) A (.builtin "max.loop" ⟨[itv, .ref q, .ref s2.heap.objs.size], []⟩) (RetR Q E) { s2 with heap := s2.heap.push (boxO [] 0) }) E s) :
    wpAny (model P w) A (call (.builtin "max") [x] [(Str.ofString "key", .ref q)]) Q E s := by
  have nm : (toString "max" ++ toString ".loop" : String) = "max.loop" := by decide
  refine kmk_tree F.kind_max F.plain_max F.entry_max (kmk_max_key _ _) ?_
  show wpAny _ A.in1 (Builtin.Builtins.bindParams "max" ["key", "default"] 0 ⟨[], [(Str.ofString "key", .ref q)]⟩ >>= _) _ _ s
  refine wpAny_bind (wpAny_of_eq (a := [some (.ref q), none]) (by rfl) (wpAny_bind (wpAny_pure (wpAny_bind (wpAny_mono h (fun itv s2 h2 => ?_) fun _ _ z => z)))))
  refine wpAny_bind (wpAny_newObj_type ?_)
  rw [nm]
  exact wpAny_pure ⟨plainId_quiet F.plain_max_loop _, h2⟩
theorem call_maxK2 {x y : Value} (h : wpAny (model P w) A.in1 (pyIter (.ref s.heap.objs.size)) (fun itv s2 => codeAny (model P w) A (.builtin "max.loop" ⟨[itv, .ref q, .ref s2.heap.objs.size], []⟩) (RetR Q E) { s2 with heap := s2.heap.push (boxO [] 0) }) E { s with heap := s.heap.push { cls := .type "tuple", data := .seq #[x, y] } }) :
    wpAny (model P w) A (call (.builtin "max") [x, y] [(Str.ofString "key", .ref q)]) Q E s := by
  have nm : (toString "max" ++ toString ".loop" : String) = "max.loop" := by decide
  refine kmk_tree F.kind_max F.plain_max F.entry_max (argsk_max2 _ _ _) ?_
  show wpAny _ A.in1 (Builtin.Builtins.bindParams "max" ["key", "default"] 0 ⟨[], [(Str.ofString "key", .ref q)]⟩ >>= _) _ _ s
  refine wpAny_bind (wpAny_of_eq (a := [some (.ref q), none]) (by rfl) ?_)
  show wpAny _ A.in1 (newTuple [x, y] >>= _) _ _ s
  refine wpAny_bind (wpAny_newTuple (wpAny_bind (wpAny_mono h (fun itv s2 h2 => ?_) fun _ _ z => z)))
  refine wpAny_bind (wpAny_newObj_type ?_)
  rw [nm]
  exact wpAny_pure ⟨plainId_quiet F.plain_max_loop _, h2⟩
theorem argsk_min2 (a b v : Value) : argsOk "min" ⟨[a, b], [(Str.ofString "key", v)]⟩ := by unfold argsOk; kernel_rfl
theorem call_minK1 {x : Value} (h : wpAny (model P w) A.in1 (pyIter x) (fun itv s2 => codeAny (model P w) A (.builtin "min.loop" ⟨[itv, .ref q, .ref s2.heap.objs.size], []⟩) (RetR Q E) { s2 with heap := s2.heap.push (boxO [] 0) }) E s) :
    wpAny (model P w) A (call (.builtin "min") [x] [(Str.ofString "key", .ref q)]) Q E s := by
  have nm : (toString "min" ++ toString ".loop" : String) = "min.loop" := by decide
  refine kmk_tree F.kind_min F.plain_min F.entry_min (kmk_min_key _ _) ?_
  show wpAny _ A.in1 (Builtin.Builtins.bindParams "min" ["key", "default"] 0 ⟨[], [(Str.ofString "key", .ref q)]⟩ >>= _) _ _ s
  refine wpAny_bind (wpAny_of_eq (a := [some (.ref q), none]) (by rfl) (wpAny_bind (wpAny_pure (wpAny_bind (wpAny_mono h (fun itv s2 h2 => ?_) fun _ _ z => z)))))
  refine wpAny_bind (wpAny_newObj_type ?_)
  rw [nm]
  exact wpAny_pure ⟨plainId_quiet F.plain_min_loop _, h2⟩
theorem call_minK2 {x y : Value} (h : wpAny (model P w) A.in1 (pyIter (.ref s.heap.objs.size)) (fun itv s2 => codeAny (model P w) A (.builtin "min.loop" ⟨[itv, .ref q, .ref s2.heap.objs.size], []⟩) (RetR Q E) { s2 with heap := s2.heap.push (boxO [] 0) }) E { s with heap := s.heap.push { cls := .type "tuple", data := .seq #[x, y] } }) :
    wpAny (model P w) A (call (.builtin "min") [x, y] [(Str.ofString "key", .ref q)]) Q E s := by
  have nm : (toString "min" ++ toString ".loop" : String) = "min.loop" := by decide
  refine kmk_tree F.kind_min F.plain_min F.entry_min (argsk_min2 _ _ _) ?_
  show wpAny _ A.in1 (Builtin.Builtins.bindParams "min" ["key", "default"] 0 ⟨[], [(Str.ofString "key", .ref q)]⟩ >>= _) _ _ s
  refine wpAny_bind (wpAny_of_eq (a := [some (.ref q), none]) (by rfl) ?_)
  show wpAny _ A.in1 (newTuple [x, y] >>= _) _ _ s
  refine wpAny_bind (wpAny_newTuple (wpAny_bind (wpAny_mono h (fun itv s2 h2 => ?_) fun _ _ z => z)))
  refine wpAny_bind (wpAny_newObj_type ?_)
  rw [nm]
  exact wpAny_pure ⟨plainId_quiet F.plain_min_loop _, h2⟩
end
end
end Z
end

section
set_option Elab.async false
set_option linter.all false
set_option maxRecDepth 100000
set_option maxHeartbeats 1000000
namespace Z
noncomputable section
open PySem PySem.Spec PyProof.Rows L2
/-! ### the best item by an own def's answers, as data -/
open Classical in
def keyGo (F : FD) (f : PyData → PyData → Bool) (S : Sto) : D → D → List D → R D
  | x, _, [] => .ok x S
  | x, k, y :: ys => match F [y] S with
    | .ok k' S' => if S' = S then (match pyS S k', pyS S k with
      | some d, some e => if LtOk d e then (if f d e then keyGo F f S y k' ys else keyGo F f S x k ys) else .bad
      | _, _ => .bad) else .bad
    | _ => .bad
open Classical in
def keyAll (F : FD) (f : PyData → PyData → Bool) (S : Sto) : List D → R D
  | [] => .bad
  | x :: xs => match F [x] S with
    | .ok k S' => if S' = S then keyGo F f S x k xs else .bad
    | _ => .bad
def dKeyT (F : FD) (f : PyData → PyData → Bool) (a : DenA) : Den := fun env S => (a env S).bind fun ds S1 => if ds.length = 2 then keyAll F f S1 ds else .bad
def dKeyL (F : FD) (f : PyData → PyData → Bool) (a : DenA) : Den := fun env S => (a env S).bind fun ds S1 => match ds with
  | [d] => match lstOf S1 d with
    | some xs => keyAll F f S1 xs
    | none => .bad
  | _ => .bad
def gtP (d e : PyData) : Bool := PySem.W.dataLt e d
def ltP (d e : PyData) : Bool := PySem.W.dataLt d e
section
variable {X : Cx} {W : WX} {σ : L2.St} {Q : VK} {F : FD} {f : PyData → PyData → Bool} {S : Sto} {dl : D} {v : V} {ds : List D}
def KInv (X : Cx) (W : WX) (σ : L2.St) (Q : VK) (F : FD) (f : PyData → PyData → Bool) (S : Sto) (dl : D) (v : V) (ds : List D) (i : Nat) (x k : V) (H : Hp) : Prop :=
  ∃ ι dx dk, Sr X.K H ι S ∧ Rp X.K H ι v dl ∧ Rp X.K H ι x dx ∧ Rp X.K H ι k dk ∧ Post X.K X.mg (Rp X.K) W σ ι H (keyGo F f S dx dk (ds.drop i)) Q
/-- how the walk reads the items -/
structure Src (X : Cx) (S : Sto) (dl : D) (v : V) (ds : List D) (J : It) (Sq : Hp → List V → Prop) : Prop where
  rd : ∀ H ι, Sr X.K H ι S → Rp X.K H ι v dl → ∃ vs, Sq H vs ∧ Rps X.K H ι vs ds
  go : ∀ i H vs x, Sq H vs → vs[i]? = some x → J.go i H
  stop : ∀ H vs, Sq H vs → J.stop vs.length H
  yld : ∀ i H y H' vs, Sq H vs → J.yld i H y H' → H' = H ∧ vs[i]? = some y
theorem keyW {J : It} {Sq : Hp → List V → Prop} (C : Src X S dl v ds J Sq) : KeyW X J ds.length (spOf X.K X.mg 1 F) f (KInv X W σ Q F f S dl v ds) := by
  refine ⟨fun i x k H hi w0 => ?_, fun x k H w0 => ?_, fun i x k H y H' hi w0 hy => ?_⟩
  · obtain ⟨ι, dx, dk, s, rv, rx, rk, p⟩ := w0
    obtain ⟨vs, sq, r⟩ := C.rd H ι s rv
    have hl : i < vs.length := by rw [r.length]; exact hi
    exact C.go i H vs _ sq (List.getElem?_eq_getElem hl)
  · obtain ⟨ι, dx, dk, s, rv, rx, rk, p⟩ := w0
    obtain ⟨vs, sq, r⟩ := C.rd H ι s rv
    rw [← r.length]
    exact C.stop H vs sq
  · obtain ⟨ι, dx, dk, s, rv, rx, rk, p⟩ := w0
    obtain ⟨vs, sq, r⟩ := C.rd H ι s rv
    obtain ⟨rfl, hv⟩ := C.yld i H y H' vs sq hy
    obtain ⟨dy, hd, ry⟩ := r.getV hv
    have ed : ds.drop i = dy :: ds.drop (i + 1) := by
      obtain ⟨h1, h2⟩ := List.getElem?_eq_some_iff.mp hd
      rw [List.drop_eq_getElem_cons h1, h2]
    rw [ed, keyGo] at p
    refine ⟨rfl, ι, [dy], S, s, .cons ry .nil, ?_⟩
    cases hF : F [dy] S with
    | ok k' S' =>
      rw [hF] at p
      simp only at p
      split at p
      · rename_i hS
        subst hS
        split at p
        · rename_i d e h1 h2
          split at p
          · rename_i hl
            intro ι2 H2 vk e2 s2 rk2
            refine ⟨d, e, dpS_of s2 rk2 h1, dpS_of s2 (rk.ext e2) h2, hl, ?_⟩
            cases hb : f d e with
            | true =>
              rw [hb, if_pos rfl] at p
              exact ⟨ι2, dy, k', s2, rv.ext e2, ry.ext e2, rk2, p.ext e2 s2⟩
            | false =>
              rw [hb, if_neg Bool.false_ne_true] at p
              exact ⟨ι2, dx, dk, s2, rv.ext e2, rx.ext e2, rk.ext e2, p.ext e2 s2⟩
          · exact p.elim
        · exact p.elim
      · exact p.elim
    | ex c fs S' => rw [hF] at p; exact p.elim
    | bad => rw [hF] at p; exact p.elim
/-- the first item -/
theorem key_first {x : D} {xs : List D} {H : Hp} {ι : Em} {y : V} (hds : ds = x :: xs) (s : Sr X.K H ι S) (rv : Rp X.K H ι v dl) (ry : Rp X.K H ι y x) (p : Post X.K X.mg (Rp X.K) W σ ι H (keyAll F f S ds) Q) :
    spOf X.K X.mg 1 F [y] H (fun k' H2 => KInv X W σ Q F f S dl v ds 1 y k' H2) (fun _ _ _ => False) := by
  subst hds
  rw [keyAll] at p
  refine ⟨rfl, ι, [x], S, s, .cons ry .nil, ?_⟩
  cases hF : F [x] S with
  | ok k' S' =>
    rw [hF] at p
    simp only at p
    split at p
    · rename_i hS
      subst hS
      intro ι2 H2 vk e2 s2 rk2
      exact ⟨ι2, x, k', s2, rv.ext e2, ry.ext e2, rk2, by rw [List.drop_succ_cons, List.drop_zero]; exact p.ext e2 s2⟩
    · exact p.elim
  | ex c fs S' => rw [hF] at p; exact p.elim
  | bad => rw [hF] at p; exact p.elim
theorem key_last {x k : V} {H : Hp} (w0 : KInv X W σ Q F f S dl v ds ds.length x k H) : Q x H := by
  obtain ⟨ι, dx, dk, s, rv, rx, rk, p⟩ := w0
  rw [List.drop_length, keyGo] at p
  exact p.ret s rx
theorem src_tup {a : Addr} : Src X S (.tup ds) (.ref a) ds (Itt X.K a) (fun H vs => SqT X.K H a vs) :=
  ⟨fun H ι s r => by obtain ⟨b, vs, e, h1, h2⟩ := r.tup_inv; cases e; exact ⟨vs, h1, h2⟩, fun i H vs x sq e => ⟨vs, x, sq, e⟩, fun H vs sq => ⟨vs, sq, Nat.le_refl _⟩, fun i H y H' vs sq z => ⟨z.1, z.2 vs sq⟩⟩
theorem src_lst {a : Addr} (e : lstOf S dl = some ds) : Src X S dl (.ref a) ds (Itl X.K a) (fun H vs => SqL X.K H a vs) :=
  ⟨fun H ι s r => by obtain ⟨b, vs, e1, h1, h2⟩ := lst_inv s r e; cases e1; exact ⟨vs, h1, h2⟩, fun i H vs x sq e => ⟨vs, x, sq, e⟩, fun H vs sq => ⟨vs, sq, Nat.le_refl _⟩, fun i H y H' vs sq z => ⟨z.1, z.2 vs sq⟩⟩
end
/-! ### the two calls -/
def rK2 (X : Cx) (q : Addr) (sp : Sp) (bt : PyData → PyData → Bool) : List V → List V → Hp → VK → Prop := fun vs zs H Q => zs = [.ref q] ∧ ∃ a b, vs = [a, b] ∧ ∀ T, H T = none → ∃ W, KeyW X (Itt X.K T) 2 sp bt W ∧
  sp [a] (upd H T (.tup [a, b])) (fun k' H2 => W 1 a k' H2) (fun _ _ _ => False) ∧ ∀ x k H', W 2 x k H' → Q x H'
def rK1 (X : Cx) (q : Addr) (sp : Sp) (bt : PyData → PyData → Bool) : List V → List V → Hp → VK → Prop := fun vs zs H Q => zs = [.ref q] ∧ ∃ a ys W, vs = [.ref a] ∧ SqL X.K H a ys ∧ 1 ≤ ys.length ∧ KeyW X (Itl X.K a) ys.length sp bt W ∧
  (∀ y, ys[0]? = some y → sp [y] H (fun k' H2 => W 1 y k' H2) (fun _ _ _ => False)) ∧ ∀ x k H', W ys.length x k H' → Q x H'
section
variable {X : Cx} {q : Addr} {sp : Sp}
theorem fp_two {pins : List (Addr × Obj)} {σ : L2.St} {H : Hp} {s : Shared} (I : Inv X pins σ H s) : ∀ b ∈ (s.heap.objs.size + 1) :: [s.heap.objs.size], FpOk X pins H b := fun b hb => by
  have hle : s.heap.objs.size ≤ b := by
    simp only [List.mem_cons, List.not_mem_nil, or_false] at hb
    rcases hb with z | z <;> omega
  exact I.fpOk hle (I.hok.fresh hle)
theorem cr_max2 (hc : X.calm = true) (C : Runs X q sp) (hu : X.A.units + 1 + 64 < cLine) : CallRK X (.builtin "max") [Str.ofString "key"] (rK2 X q sp gtP) := by
  intro pins s σ H xs zs us ws Q I rx rz h
  obtain ⟨rfl, a, b, rfl, h⟩ := h
  obtain ⟨u1, u2, rfl, r1, r2⟩ := vals2 rx
  obtain ⟨w1, rfl, rw1⟩ := vals1 rz
  cases rw1
  have hT := I.hok.fresh (Nat.le_refl s.heap.objs.size)
  obtain ⟨W, Wk, h0, hQ⟩ := h s.heap.objs.size hT
  refine call_maxK2 ?_
  have pr : Vals [a, b] [u1, u2] := .cons r1 (.cons r2 .nil)
  have gT : (s.heap.push { cls := .type "tuple", data := .seq #[u1, u2] }).get? s.heap.objs.size = some { cls := .type "tuple", data := .seq #[u1, u2] } := Heap.get?_push_size _ rfl
  have I1 : Inv X pins σ (upd H s.heap.objs.size (.tup [a, b])) { s with heap := s.heap.push { cls := .type "tuple", data := .seq #[u1, u2] } } :=
    I.laid (t' := s.toks) (fun b u e => Heap.get?_push_of_some _ e) (Nat.le_refl _) ⟨(by decide : 2 ≤ sizeLine), _, pr, ⟨_, gT, rfl, _, rfl⟩⟩
  have sq : SqT X.K (upd H s.heap.objs.size (.tup [a, b])) s.heap.objs.size [a, b] := .inl (.inl upd_same)
  obtain ⟨its, rv, p, hz⟩ := I1.tuple sq
  refine wpAny_pyIter_tuple (show Heap.IsTuple _ s.heap.objs.size its.toArray from p) ?_
  have I3 := I1.kept (t' := s.toks) (h' := ((s.heap.push { cls := .type "tuple", data := .seq #[u1, u2] }).push { cls := .type "tuple_iterator", data := .fields #[.ref s.heap.objs.size, .int 0 0] }).push (boxO [] 0)) fun b o e => Heap.get?_push_of_some _ (Heap.get?_push_of_some _ e)
  have z1 : ((s.heap.push { cls := .type "tuple", data := .seq #[u1, u2] }).push { cls := .type "tuple_iterator", data := .fields #[.ref s.heap.objs.size, .int 0 0] }).objs.size = (s.heap.push { cls := .type "tuple", data := .seq #[u1, u2] }).objs.size + 1 := Heap.size_push ..
  have gb := Heap.get?_push_size ((s.heap.push { cls := .type "tuple", data := .seq #[u1, u2] }).push { cls := .type "tuple_iterator", data := .fields #[.ref s.heap.objs.size, .int 0 0] }) (o := boxO [] 0) rfl
  rw [z1] at gb
  show codeAny (model X.prog X.w) X.A (.builtin "max.loop" ⟨[.ref (s.heap.push { cls := .type "tuple", data := .seq #[u1, u2] }).objs.size, .ref q, .ref ((s.heap.push { cls := .type "tuple", data := .seq #[u1, u2] }).push { cls := .type "tuple_iterator", data := .fields #[.ref s.heap.objs.size, .int 0 0] }).objs.size], []⟩) _ _
  rw [z1]
  refine max_all (xn := "x") (xp := ⟨0, 0, 0, 0⟩) (turn_tuple _ _) hc C (fun z => ?_) hu Wk (fun x k H' s' vb w0 I' r' => ⟨x, H', I', r', hQ x k H' w0⟩) (by decide) I3 ⟨_, Heap.get?_push_of_some _ (Heap.get?_push_size _ rfl), rfl, rfl⟩ (fp_two I1) gb ⟨[a, b], a, sq, rfl⟩ fun y H' hy => ?_
  · simp only [List.mem_cons, List.not_mem_nil, or_false] at z
    exact absurd z (Nat.succ_ne_self _)
  · obtain ⟨rfl, hy2⟩ := hy
    have e := hy2 [a, b] sq
    cases e
    exact h0
theorem cr_max1 (hc : X.calm = true) (C : Runs X q sp) (hu : X.A.units + 1 + 64 < cLine) : CallRK X (.builtin "max") [Str.ofString "key"] (rK1 X q sp gtP) := by
  intro pins s σ H xs zs us ws Q I rx rz h
  obtain ⟨rfl, a, ys, W, rfl, sq, hn, Wk, h0, hQ⟩ := h
  obtain ⟨u1, rfl, r1⟩ := vals1 rx
  obtain ⟨w1, rfl, rw1⟩ := vals1 rz
  cases rw1
  cases r1
  refine call_maxK1 ?_
  obtain ⟨its, rv, p, hz⟩ := I.list sq
  refine wpAny_pyIter_list p.isList ?_
  have I3 := I.kept (t' := s.toks) (h' := (s.heap.push { cls := .type "list_iterator", data := .fields #[.ref a, .int 0 0] }).push (boxO [] 0)) fun b o e => Heap.get?_push_of_some _ (Heap.get?_push_of_some _ e)
  have z1 : (s.heap.push { cls := .type "list_iterator", data := .fields #[.ref a, .int 0 0] }).objs.size = s.heap.objs.size + 1 := Heap.size_push ..
  have gb := Heap.get?_push_size (s.heap.push { cls := .type "list_iterator", data := .fields #[.ref a, .int 0 0] }) (o := boxO [] 0) rfl
  rw [z1] at gb
  show codeAny (model X.prog X.w) X.A (.builtin "max.loop" ⟨[.ref s.heap.objs.size, .ref q, .ref (s.heap.push { cls := .type "list_iterator", data := .fields #[.ref a, .int 0 0] }).objs.size], []⟩) _ _
  rw [z1]
  refine max_all (xn := "x") (xp := ⟨0, 0, 0, 0⟩) (turn_list _ _) hc C (fun z => ?_) hu Wk (fun x k H' s' vb w0 I' r' => ⟨x, H', I', r', hQ x k H' w0⟩) hn I3 ⟨_, Heap.get?_push_of_some _ (Heap.get?_push_size _ rfl), rfl, rfl⟩ (fp_two I) gb ⟨ys, _, sq, List.getElem?_eq_getElem hn⟩ fun y H' hy => ?_
  · simp only [List.mem_cons, List.not_mem_nil, or_false] at z
    exact absurd z (Nat.succ_ne_self _)
  · obtain ⟨rfl, hy2⟩ := hy
    exact h0 y (hy2 ys sq)
theorem cr_min2 (hc : X.calm = true) (C : Runs X q sp) (hu : X.A.units + 1 + 64 < cLine) : CallRK X (.builtin "min") [Str.ofString "key"] (rK2 X q sp ltP) := by
  intro pins s σ H xs zs us ws Q I rx rz h
  obtain ⟨rfl, a, b, rfl, h⟩ := h
  obtain ⟨u1, u2, rfl, r1, r2⟩ := vals2 rx
  obtain ⟨w1, rfl, rw1⟩ := vals1 rz
  cases rw1
  have hT := I.hok.fresh (Nat.le_refl s.heap.objs.size)
  obtain ⟨W, Wk, h0, hQ⟩ := h s.heap.objs.size hT
  refine call_minK2 ?_
  have pr : Vals [a, b] [u1, u2] := .cons r1 (.cons r2 .nil)
  have gT : (s.heap.push { cls := .type "tuple", data := .seq #[u1, u2] }).get? s.heap.objs.size = some { cls := .type "tuple", data := .seq #[u1, u2] } := Heap.get?_push_size _ rfl
  have I1 : Inv X pins σ (upd H s.heap.objs.size (.tup [a, b])) { s with heap := s.heap.push { cls := .type "tuple", data := .seq #[u1, u2] } } :=
    I.laid (t' := s.toks) (fun b u e => Heap.get?_push_of_some _ e) (Nat.le_refl _) ⟨(by decide : 2 ≤ sizeLine), _, pr, ⟨_, gT, rfl, _, rfl⟩⟩
  have sq : SqT X.K (upd H s.heap.objs.size (.tup [a, b])) s.heap.objs.size [a, b] := .inl (.inl upd_same)
  obtain ⟨its, rv, p, hz⟩ := I1.tuple sq
  refine wpAny_pyIter_tuple (show Heap.IsTuple _ s.heap.objs.size its.toArray from p) ?_
  have I3 := I1.kept (t' := s.toks) (h' := ((s.heap.push { cls := .type "tuple", data := .seq #[u1, u2] }).push { cls := .type "tuple_iterator", data := .fields #[.ref s.heap.objs.size, .int 0 0] }).push (boxO [] 0)) fun b o e => Heap.get?_push_of_some _ (Heap.get?_push_of_some _ e)
  have z1 : ((s.heap.push { cls := .type "tuple", data := .seq #[u1, u2] }).push { cls := .type "tuple_iterator", data := .fields #[.ref s.heap.objs.size, .int 0 0] }).objs.size = (s.heap.push { cls := .type "tuple", data := .seq #[u1, u2] }).objs.size + 1 := Heap.size_push ..
  have gb := Heap.get?_push_size ((s.heap.push { cls := .type "tuple", data := .seq #[u1, u2] }).push { cls := .type "tuple_iterator", data := .fields #[.ref s.heap.objs.size, .int 0 0] }) (o := boxO [] 0) rfl
  rw [z1] at gb
  show codeAny (model X.prog X.w) X.A (.builtin "min.loop" ⟨[.ref (s.heap.push { cls := .type "tuple", data := .seq #[u1, u2] }).objs.size, .ref q, .ref ((s.heap.push { cls := .type "tuple", data := .seq #[u1, u2] }).push { cls := .type "tuple_iterator", data := .fields #[.ref s.heap.objs.size, .int 0 0] }).objs.size], []⟩) _ _
  rw [z1]
  refine min_all (xn := "x") (xp := ⟨0, 0, 0, 0⟩) (turn_tuple _ _) hc C (fun z => ?_) hu Wk (fun x k H' s' vb w0 I' r' => ⟨x, H', I', r', hQ x k H' w0⟩) (by decide) I3 ⟨_, Heap.get?_push_of_some _ (Heap.get?_push_size _ rfl), rfl, rfl⟩ (fp_two I1) gb ⟨[a, b], a, sq, rfl⟩ fun y H' hy => ?_
  · simp only [List.mem_cons, List.not_mem_nil, or_false] at z
    exact absurd z (Nat.succ_ne_self _)
  · obtain ⟨rfl, hy2⟩ := hy
    have e := hy2 [a, b] sq
    cases e
    exact h0
theorem cr_min1 (hc : X.calm = true) (C : Runs X q sp) (hu : X.A.units + 1 + 64 < cLine) : CallRK X (.builtin "min") [Str.ofString "key"] (rK1 X q sp ltP) := by
  intro pins s σ H xs zs us ws Q I rx rz h
  obtain ⟨rfl, a, ys, W, rfl, sq, hn, Wk, h0, hQ⟩ := h
  obtain ⟨u1, rfl, r1⟩ := vals1 rx
  obtain ⟨w1, rfl, rw1⟩ := vals1 rz
  cases rw1
  cases r1
  refine call_minK1 ?_
  obtain ⟨its, rv, p, hz⟩ := I.list sq
  refine wpAny_pyIter_list p.isList ?_
  have I3 := I.kept (t' := s.toks) (h' := (s.heap.push { cls := .type "list_iterator", data := .fields #[.ref a, .int 0 0] }).push (boxO [] 0)) fun b o e => Heap.get?_push_of_some _ (Heap.get?_push_of_some _ e)
  have z1 : (s.heap.push { cls := .type "list_iterator", data := .fields #[.ref a, .int 0 0] }).objs.size = s.heap.objs.size + 1 := Heap.size_push ..
  have gb := Heap.get?_push_size (s.heap.push { cls := .type "list_iterator", data := .fields #[.ref a, .int 0 0] }) (o := boxO [] 0) rfl
  rw [z1] at gb
  show codeAny (model X.prog X.w) X.A (.builtin "min.loop" ⟨[.ref s.heap.objs.size, .ref q, .ref (s.heap.push { cls := .type "list_iterator", data := .fields #[.ref a, .int 0 0] }).objs.size], []⟩) _ _
  rw [z1]
  refine min_all (xn := "x") (xp := ⟨0, 0, 0, 0⟩) (turn_list _ _) hc C (fun z => ?_) hu Wk (fun x k H' s' vb w0 I' r' => ⟨x, H', I', r', hQ x k H' w0⟩) hn I3 ⟨_, Heap.get?_push_of_some _ (Heap.get?_push_size _ rfl), rfl, rfl⟩ (fp_two I) gb ⟨ys, _, sq, List.getElem?_eq_getElem hn⟩ fun y H' hy => ?_
  · simp only [List.mem_cons, List.not_mem_nil, or_false] at z
    exact absurd z (Nat.succ_ne_self _)
  · obtain ⟨rfl, hy2⟩ := hy
    exact h0 y (hy2 ys sq)
end

section
variable {X : Cx} {W : WX} {q : Addr} {fd : FuncData} {k : Nat} {F : FD} {x fn : Str} {p p2 kp pos : Pos} {e1 e2 : Expr} {da : DenA}
theorem e_maxK2 (Fk : FnZ X.prog X.w X.K X.mg X.base k q fd [x] F) (hr : Room (k + 1) X.A) (hb : Binds X.K fd [x] []) (hm : X.mg fn = some (.ref q)) (hx : X.mg "max" = none) (hc : X.calm = true) (ha : AA X W [e1, e2] da) (hg : Gl X fn := by rfl) (hgm : Gl X "max" := by rfl) (hd : (fn == ("__debug__" : Str)) = false := by decide)
    (he : backTo pos (starEach [e1, e2] X.env) = (false, eval e1 X.env) :: backTo pos (starEach [e2] X.env) := by rfl) (hpl : (backTo pos (starEach [e1, e2] X.env)).any (·.1) = false := by rfl)
    (hall : (backToKw pos (keywordEach [⟨some "key", .Name fn p2, kp⟩] X.env)).all (·.1.isSome) = true := by rfl) (hnone : (backToKw pos (keywordEach [⟨some "key", .Name fn p2, kp⟩] X.env)).any (·.1.isNone) = false := by rfl) (hks : (backToKw pos (keywordEach [⟨some "key", .Name fn p2, kp⟩] X.env)).filterMap (·.1) = [Str.ofString "key"] := by rfl) :
    EE X W (.Call (.Name "max" p) [e1, e2] [⟨some "key", .Name fn p2, kp⟩] pos) (dKeyT F gtP da) :=
  PE.imp (pe_callBK (cr_max2 hc (runs_of Fk hr hb) (by have := hr.un; omega)) hgm hx boot_max ha (pk_cons (pe_glob hg hm (show RelV (.ref q) (.ref q) from rfl) hd) pk_nil) (by decide) (by decide) he hpl hall hnone hks) fun σ H Q h => by
    obtain ⟨ι, env, S, s, er, p⟩ := h
    refine ⟨ι, env, S, s, er, (Post.bind (Rel' := Rps X.K) p).mono ?_⟩
    rintro xs H1 ⟨ι1, ds, S1, e1', s1, r1, p1⟩
    show rK2 X q (spOf X.K X.mg 1 F) gtP xs [.ref q] H1 Q
    split at p1
    · rename_i hl
      obtain ⟨d1, d2, rfl⟩ : ∃ d1 d2, ds = [d1, d2] := by
        match ds, hl with
        | [d1, d2], _ => exact ⟨d1, d2, rfl⟩
      obtain ⟨v, w, rfl, rv, rw1⟩ := rps2 r1
      refine ⟨rfl, v, w, rfl, fun T hT => ⟨KInv X W σ Q F gtP S1 (.tup [d1, d2]) (.ref T) [d1, d2], keyW (ds := [d1, d2]) src_tup, ?_, fun x k H' w0 => key_last w0⟩⟩
      have rT : Rp X.K (upd H1 T (.tup [v, w])) ι1 (.ref T) (.tup [d1, d2]) := .tup (s1.out hT) upd_same (r1.ext (Ext.new hT))
      exact key_first rfl (s1.new hT) rT (rv.ext (Ext.new hT)) (p1.ext (Ext.new hT) (s1.new hT))
    · exact p1.elim
theorem e_maxK1 (Fk : FnZ X.prog X.w X.K X.mg X.base k q fd [x] F) (hr : Room (k + 1) X.A) (hb : Binds X.K fd [x] []) (hm : X.mg fn = some (.ref q)) (hx : X.mg "max" = none) (hc : X.calm = true) (ha : AA X W [e1] da) (hg : Gl X fn := by rfl) (hgm : Gl X "max" := by rfl) (hd : (fn == ("__debug__" : Str)) = false := by decide)
    (he : backTo pos (starEach [e1] X.env) = (false, eval e1 X.env) :: backTo pos (starEach [] X.env) := by rfl) (hpl : (backTo pos (starEach [e1] X.env)).any (·.1) = false := by rfl)
    (hall : (backToKw pos (keywordEach [⟨some "key", .Name fn p2, kp⟩] X.env)).all (·.1.isSome) = true := by rfl) (hnone : (backToKw pos (keywordEach [⟨some "key", .Name fn p2, kp⟩] X.env)).any (·.1.isNone) = false := by rfl) (hks : (backToKw pos (keywordEach [⟨some "key", .Name fn p2, kp⟩] X.env)).filterMap (·.1) = [Str.ofString "key"] := by rfl) :
    EE X W (.Call (.Name "max" p) [e1] [⟨some "key", .Name fn p2, kp⟩] pos) (dKeyL F gtP da) :=
  PE.imp (pe_callBK (cr_max1 hc (runs_of Fk hr hb) (by have := hr.un; omega)) hgm hx boot_max ha (pk_cons (pe_glob hg hm (show RelV (.ref q) (.ref q) from rfl) hd) pk_nil) (by decide) (by decide) he hpl hall hnone hks) fun σ H Q h => by
    obtain ⟨ι, env, S, s, er, p⟩ := h
    refine ⟨ι, env, S, s, er, (Post.bind (Rel' := Rps X.K) p).mono ?_⟩
    rintro xs H1 ⟨ι1, ds, S1, e1', s1, r1, p1⟩
    show rK1 X q (spOf X.K X.mg 1 F) gtP xs [.ref q] H1 Q
    split at p1
    · rename_i d
      cases r1 with
      | cons rv rn =>
      cases rn
      split at p1
      · rename_i ys e3
        obtain ⟨a, vs, rfl, sq, rs⟩ := lst_inv s1 rv e3
        cases ys with
        | nil => exact p1.elim
        | cons y ys =>
          have hl := rs.length
          refine ⟨rfl, a, vs, KInv X W σ Q F gtP S1 d (.ref a) (y :: ys), rfl, sq, by rw [hl]; simp, by rw [hl]; exact keyW (src_lst e3), fun y' hy => ?_, fun x k H' w0 => key_last (by rw [hl] at w0; exact w0)⟩
          cases rs with
          | cons r0 rs =>
          rw [List.getElem?_cons_zero] at hy
          cases hy
          exact key_first rfl s1 rv r0 p1
      · exact p1.elim
    · exact p1.elim
end

section
variable {X : Cx} {W : WX} {q : Addr} {fd : FuncData} {k : Nat} {F : FD} {x fn : Str} {p p2 kp pos : Pos} {e1 e2 : Expr} {da : DenA}
theorem e_minK2 (Fk : FnZ X.prog X.w X.K X.mg X.base k q fd [x] F) (hr : Room (k + 1) X.A) (hb : Binds X.K fd [x] []) (hm : X.mg fn = some (.ref q)) (hx : X.mg "min" = none) (hc : X.calm = true) (ha : AA X W [e1, e2] da) (hg : Gl X fn := by rfl) (hgm : Gl X "min" := by rfl) (hd : (fn == ("__debug__" : Str)) = false := by decide)
    (he : backTo pos (starEach [e1, e2] X.env) = (false, eval e1 X.env) :: backTo pos (starEach [e2] X.env) := by rfl) (hpl : (backTo pos (starEach [e1, e2] X.env)).any (·.1) = false := by rfl)
    (hall : (backToKw pos (keywordEach [⟨some "key", .Name fn p2, kp⟩] X.env)).all (·.1.isSome) = true := by rfl) (hnone : (backToKw pos (keywordEach [⟨some "key", .Name fn p2, kp⟩] X.env)).any (·.1.isNone) = false := by rfl) (hks : (backToKw pos (keywordEach [⟨some "key", .Name fn p2, kp⟩] X.env)).filterMap (·.1) = [Str.ofString "key"] := by rfl) :
    EE X W (.Call (.Name "min" p) [e1, e2] [⟨some "key", .Name fn p2, kp⟩] pos) (dKeyT F ltP da) :=
  PE.imp (pe_callBK (cr_min2 hc (runs_of Fk hr hb) (by have := hr.un; omega)) hgm hx boot_min ha (pk_cons (pe_glob hg hm (show RelV (.ref q) (.ref q) from rfl) hd) pk_nil) (by decide) (by decide) he hpl hall hnone hks) fun σ H Q h => by
    obtain ⟨ι, env, S, s, er, p⟩ := h
    refine ⟨ι, env, S, s, er, (Post.bind (Rel' := Rps X.K) p).mono ?_⟩
    rintro xs H1 ⟨ι1, ds, S1, e1', s1, r1, p1⟩
    show rK2 X q (spOf X.K X.mg 1 F) ltP xs [.ref q] H1 Q
    split at p1
    · rename_i hl
      obtain ⟨d1, d2, rfl⟩ : ∃ d1 d2, ds = [d1, d2] := by
        match ds, hl with
        | [d1, d2], _ => exact ⟨d1, d2, rfl⟩
      obtain ⟨v, w, rfl, rv, rw1⟩ := rps2 r1
      refine ⟨rfl, v, w, rfl, fun T hT => ⟨KInv X W σ Q F ltP S1 (.tup [d1, d2]) (.ref T) [d1, d2], keyW (ds := [d1, d2]) src_tup, ?_, fun x k H' w0 => key_last w0⟩⟩
      have rT : Rp X.K (upd H1 T (.tup [v, w])) ι1 (.ref T) (.tup [d1, d2]) := .tup (s1.out hT) upd_same (r1.ext (Ext.new hT))
      exact key_first rfl (s1.new hT) rT (rv.ext (Ext.new hT)) (p1.ext (Ext.new hT) (s1.new hT))
    · exact p1.elim
theorem e_minK1 (Fk : FnZ X.prog X.w X.K X.mg X.base k q fd [x] F) (hr : Room (k + 1) X.A) (hb : Binds X.K fd [x] []) (hm : X.mg fn = some (.ref q)) (hx : X.mg "min" = none) (hc : X.calm = true) (ha : AA X W [e1] da) (hg : Gl X fn := by rfl) (hgm : Gl X "min" := by rfl) (hd : (fn == ("__debug__" : Str)) = false := by decide)
    (he : backTo pos (starEach [e1] X.env) = (false, eval e1 X.env) :: backTo pos (starEach [] X.env) := by rfl) (hpl : (backTo pos (starEach [e1] X.env)).any (·.1) = false := by rfl)
    (hall : (backToKw pos (keywordEach [⟨some "key", .Name fn p2, kp⟩] X.env)).all (·.1.isSome) = true := by rfl) (hnone : (backToKw pos (keywordEach [⟨some "key", .Name fn p2, kp⟩] X.env)).any (·.1.isNone) = false := by rfl) (hks : (backToKw pos (keywordEach [⟨some "key", .Name fn p2, kp⟩] X.env)).filterMap (·.1) = [Str.ofString "key"] := by rfl) :
    EE X W (.Call (.Name "min" p) [e1] [⟨some "key", .Name fn p2, kp⟩] pos) (dKeyL F ltP da) :=
  PE.imp (pe_callBK (cr_min1 hc (runs_of Fk hr hb) (by have := hr.un; omega)) hgm hx boot_min ha (pk_cons (pe_glob hg hm (show RelV (.ref q) (.ref q) from rfl) hd) pk_nil) (by decide) (by decide) he hpl hall hnone hks) fun σ H Q h => by
    obtain ⟨ι, env, S, s, er, p⟩ := h
    refine ⟨ι, env, S, s, er, (Post.bind (Rel' := Rps X.K) p).mono ?_⟩
    rintro xs H1 ⟨ι1, ds, S1, e1', s1, r1, p1⟩
    show rK1 X q (spOf X.K X.mg 1 F) ltP xs [.ref q] H1 Q
    split at p1
    · rename_i d
      cases r1 with
      | cons rv rn =>
      cases rn
      split at p1
      · rename_i ys e3
        obtain ⟨a, vs, rfl, sq, rs⟩ := lst_inv s1 rv e3
        cases ys with
        | nil => exact p1.elim
        | cons y ys =>
          have hl := rs.length
          refine ⟨rfl, a, vs, KInv X W σ Q F ltP S1 d (.ref a) (y :: ys), rfl, sq, by rw [hl]; simp, by rw [hl]; exact keyW (src_lst e3), fun y' hy => ?_, fun x k H' w0 => key_last (by rw [hl] at w0; exact w0)⟩
          cases rs with
          | cons r0 rs =>
          rw [List.getElem?_cons_zero] at hy
          cases hy
          exact key_first rfl s1 rv r0 p1
      · exact p1.elim
    · exact p1.elim
end
end
end Z
end

section
set_option Elab.async false
set_option linter.all false
set_option maxRecDepth 100000
set_option maxHeartbeats 1000000
namespace Z
noncomputable section
open PySem PySem.Spec PyProof.Rows L2
/-! ### max and min of a list of alike data -/
def MxOk (ps : List PyData) : Prop := 1 ≤ ps.length ∧ PySem.W.AlikeAll ps ∧ PyData.depthAll ps ≤ 64
instance (ps : List PyData) : Decidable (MxOk ps) := Classical.propDecidable _
def bestAt (f : PyData → PyData → Bool) (ps : List PyData) : Nat := argBest (fun i j => f (ps.getD i .none) (ps.getD j .none)) (ps.length - 1)
def pysS (S : Sto) : List D → Option (List PyData)
  | [] => some []
  | d :: ds => (pyS S d).bind fun p => (pysS S ds).map fun ps => p :: ps
def fBestD (f : PyData → PyData → Bool) (xs : List D) (S : Sto) : R D := match xs with
  | [x] => match lstOf S x with
    | some ys => match pysS S ys with
      | some ps => if MxOk ps then (match ys[bestAt f ps]? with
        | some y => .ok y S
        | none => .bad) else .bad
      | none => .bad
    | none => .bad
  | _ => .bad
def rBestD (K : PySem.W.Frag) (f : PyData → PyData → Bool) : List V → Hp → VK → Prop := fun vs H Q => ∃ a ys ps, vs = [.ref a] ∧ SqL K H a ys ∧ DpAll K H ys ps ∧ MxOk ps ∧ ∀ y, ys[bestAt f ps]? = some y → Q y H
section
variable {K : PySem.W.Frag} {X : Cx}
theorem dpsS_of {H : Hp} {ι : Em} {S : Sto} (s : Sr K H ι S) : ∀ {ds : List D} {vs : List V} {ps : List PyData}, Rps K H ι vs ds → pysS S ds = some ps → DpAll K H vs ps
  | [], _, _, r, e => by cases r; cases e; exact .nil
  | d :: ds, _, _, r, e => by
    cases r with
    | cons r rs =>
      rw [pysS] at e
      cases q : pyS S d with
      | none => rw [q] at e; cases e
      | some p =>
        rw [q] at e
        cases q2 : pysS S ds with
        | none => rw [q2] at e; cases e
        | some ps => rw [q2] at e; cases e; exact .cons (dpS_of s r q) (dpsS_of s rs q2)
theorem sBestD {f : PyData → PyData → Bool} : CbS K (rBestD K f) (fBestD f) := by
  intro mg W σ ι H S xs ds Q s r p
  unfold fBestD at p
  split at p
  · rename_i x
    cases r with
    | cons r0 rn =>
    cases rn
    split at p
    · rename_i ys e
      obtain ⟨a, vs, rfl, sq, rs⟩ := lst_inv s r0 e
      split at p
      · rename_i ps e2
        split at p
        · rename_i hm
          split at p
          · rename_i y e3
            refine ⟨a, vs, ps, rfl, sq, dpsS_of s rs e2, hm, fun v hv => ?_⟩
            obtain ⟨d, hd, rd⟩ := rs.getV hv
            rw [e3] at hd
            cases hd
            exact p.ret s rd
          · exact p.elim
        · exact p.elim
      · exact p.elim
    · exact p.elim
  · exact p.elim
theorem vals_getV {vs : List V} {us : List Value} {i : Nat} {u : Value} (r : Vals vs us) (e : us[i]? = some u) : ∃ v, vs[i]? = some v ∧ RelV v u := by
  have hi : i < vs.length := by rw [r.length]; exact (List.getElem?_eq_some_iff.mp e).1
  obtain ⟨u', e', r'⟩ := r.get (List.getElem?_eq_getElem hi)
  rw [e] at e'
  cases e'
  exact ⟨_, List.getElem?_eq_getElem hi, r'⟩
theorem cr_maxD (hc : X.calm = true) (hu : X.A.units + 1 + 64 < cLine) : CallR X (.builtin "max") (rBestD X.K gtP) := by
  intro pins s σ H xs us Q I r h
  obtain ⟨a, ys, ps, rfl, sq, dp, ⟨hn, al, hd⟩, q⟩ := h
  obtain ⟨u, rfl, r1⟩ := vals1 r
  cases r1
  obtain ⟨its, rv, p, hz⟩ := I.list sq
  obtain ⟨as, hr⟩ := Dp.readsAll I ps ys its dp rv
  have hl : its.toArray.size = ps.length := PySem.W.readsAll_len (vs := its.toArray) (by simpa using hr)
  refine PySem.call_max_walkH (PySem.W.iter_listW (A := X.A.in1) (I.ok.hd hc) p.isList fun s₂ e W st hfp hw hk => ?_)
  refine ⟨_, _, _, _, _, _, _, s.heap, _, rfl, W, st, hfp, by omega, hw, hk, PySem.W.cmpIn_gt (A := X.A.in1) (vs := its.toArray) (xs := ps) (as := as) (by simpa using hr) al (by show X.A.units + 1 + _ < _; omega), fun v s' hP m => ?_⟩
  obtain ⟨h', tk, rfl, hk'⟩ := PySem.W.moved_old e rfl m
  rw [hl] at hP
  obtain ⟨y, hy, ry⟩ := vals_getV (i := bestAt gtP ps) rv (by rw [← List.getElem?_toArray]; exact hP)
  exact ⟨y, H, I.kept hk', ry, q y hy⟩
theorem cr_minD (hc : X.calm = true) (hu : X.A.units + 1 + 64 < cLine) : CallR X (.builtin "min") (rBestD X.K ltP) := by
  intro pins s σ H xs us Q I r h
  obtain ⟨a, ys, ps, rfl, sq, dp, ⟨hn, al, hd⟩, q⟩ := h
  obtain ⟨u, rfl, r1⟩ := vals1 r
  cases r1
  obtain ⟨its, rv, p, hz⟩ := I.list sq
  obtain ⟨as, hr⟩ := Dp.readsAll I ps ys its dp rv
  have hl : its.toArray.size = ps.length := PySem.W.readsAll_len (vs := its.toArray) (by simpa using hr)
  refine PySem.call_min_walkH (PySem.W.iter_listW (A := X.A.in1) (I.ok.hd hc) p.isList fun s₂ e W st hfp hw hk => ?_)
  refine ⟨_, _, _, _, _, _, _, s.heap, _, rfl, W, st, hfp, by omega, hw, hk, PySem.W.cmpIn_lt (A := X.A.in1) (vs := its.toArray) (xs := ps) (as := as) (by simpa using hr) al (by show X.A.units + 1 + _ < _; omega), fun v s' hP m => ?_⟩
  obtain ⟨h', tk, rfl, hk'⟩ := PySem.W.moved_old e rfl m
  rw [hl] at hP
  obtain ⟨y, hy, ry⟩ := vals_getV (i := bestAt ltP ps) rv (by rw [← List.getElem?_toArray]; exact hP)
  exact ⟨y, H, I.kept hk', ry, q y hy⟩
end
/-- a tuple of the written part -/
theorem stT_of {K : PySem.W.Frag} {a : Addr} {o : Obj} {its : Array Value} {n m : Nat} {vs : List V} (l : K.lookup a = some o) (c : o.cls = .type "tuple") (d : o.data = .seq its n) (sz : its.size = m) (hm : m ≤ 64) (v : Vals vs its.toList) : StT K a vs :=
  ⟨o, its, n, l, c, d, by rw [sz]; exact Nat.le_trans hm (by decide), v⟩
theorem room65 {k : Nat} {A : Around} (r : Room k A) : A.units + 1 + 64 < cLine := by have := r.un; omega
end
end Z
end

section
set_option Elab.async false
set_option linter.all false
set_option maxRecDepth 100000
set_option maxHeartbeats 1000000
namespace Z
noncomputable section
open PySem PySem.Spec PyProof.Rows L2
/-! ### f(e, .., k = v, ..), which may raise -/
def dCallX (n m : Nat) (F : FD) (g : List D → List D → List D) (a b : DenA) : Den := fun env S => (a env S).bind fun ds S1 => (b env S1).bind fun es S2 => if ds.length = n ∧ es.length = m then F (g ds es) S2 else .bad
section
variable {X : Cx} {W : WX} {k n m : Nat} {f : Addr} {fd : FuncData} {ps ks : List Str} {F : FD} {x : Str} {p pos : Pos} {e : Expr} {es : List Expr} {kws : List Keyword} {da db : DenA} {g : List Value → List Value → List Value} {gV : List V → List V → List V} {gD : List D → List D → List D}
theorem run_X {pins : List (Addr × Obj)} {σ : L2.St} {H : Hp} {s : Shared} {Q : VK} {us ws : List Value} {vs zs : List V} (Fk : FnZ X.prog X.w X.K X.mg X.base k f fd ps F) (hr : Room k X.A) (hb : KBn X.K fd ps n ks g gV) (tk : L2N.Takes X W) (I : Inv X pins σ H s) (r : Vals vs us) (rz : Vals zs ws)
    (l1 : vs.length = n) (l2 : zs.length = ks.length) (h : spOf X.K X.mg ps.length F (gV vs zs) H Q (WE W σ)) : wpAny (model X.prog X.w) X.A (call (.ref f) us (ks.zip ws)) (EP X pins σ Q) X.xe s := by
  refine wpAny_call (codeAny_mono (Fk.run X.A X.stack s H ⟨us, ks.zip ws⟩ (g us ws) (gV vs zs) Q (WE W σ) hr I.env0 (hb.to s us ws I.kIn (r.length.symm.trans l1) (rz.length.symm.trans l2)) (hb.rel r rz) h) fun q s' hq => ?_)
  match q, hq with
  | .error e, hq => exact L2N.passAt tk σ pins H s e s' I hq
  | .ok (.ret u), hq => exact I.after hq
theorem e_callX (Fk : FnZ X.prog X.w X.K X.mg X.base k f fd ps F) (hr : Room k X.A) (hm : X.mg x = some (.ref f)) (hk : PySem.W.keepIn X.K (.ref f) = true) (hb : KBn X.K fd ps n ks g gV) (hl : ks.length = m)
    (hgl : ∀ vs zs : List V, vs.length = n → zs.length = m → (gV vs zs).length = ps.length)
    (hgd : ∀ {H : Hp} {ι : Em} {vs zs : List V} {ds es : List D}, Rps X.K H ι vs ds → Rps X.K H ι zs es → ds.length = n → es.length = m → Rps X.K H ι (gV vs zs) (gD ds es))
    (tk : L2N.Takes X W) (ha : AA X W (e :: es) da) (hkw : KK X W kws db) (hg : Gl X x := by rfl)
    (hall : (backToKw pos (keywordEach kws X.env)).all (·.1.isSome) = true := by rfl) (hks : (backToKw pos (keywordEach kws X.env)).filterMap (·.1) = ks := by rfl) (hdb : (x == ("__debug__" : Str)) = false := by decide) (he : starEach (e :: es) X.env = (false, eval e X.env) :: starEach es X.env := by rfl)
    (hpl : ((backTo pos (starEach (e :: es) X.env)).any (·.1) || (backToKw pos (keywordEach kws X.env)).any (·.1.isNone)) = false := by rfl) :
    EE X W (.Call (.Name x p) (e :: es) kws pos) (dCallX n m F gD da db) := by
  subst hl
  refine ⟨fun pins s σ H Q I h => wpAny_Call_Name_kw (ld_glob I hg hm ?_ hdb)⟩
  obtain ⟨ι, env, S, s0, er, q⟩ := h
  refine PySem.W.callWith_KW (h₀ := X.base) I.ok.mod.kin hk hall (thn (ha.run pos pins s σ H (fun vs H1 => rdA X.K X.mg W db σ H1 fun zs H2 => vs.length = n ∧ zs.length = ks.length ∧ spOf X.K X.mg ps.length F (gV vs zs) H2 Q (WE W σ)) I ⟨ι, env, S, s0, er, ?_⟩) fun us s1 h1 => ?_) hpl he
  · refine (Post.bind (Rel' := Rps X.K) q).mono ?_
    rintro xs H1 ⟨ι1, ds, S1, e1, s1, r1, p1⟩
    refine ⟨ι1, env, S1, s1, er.ext e1, (Post.bind (Rel' := Rps X.K) p1).mono ?_⟩
    rintro ys H2 ⟨ι2, es', S2, e2, s2, r2, p2⟩
    split at p2
    · rename_i hn
      have l1 : xs.length = n := by rw [r1.length]; exact hn.1
      have l2 : ys.length = ks.length := by rw [r2.length]; exact hn.2
      exact ⟨l1, l2, hgl xs ys l1 l2, ι2, gD ds es', S2, s2, hgd (r1.ext e2) r2 hn.1 hn.2, Post.wish (E := WE W σ) p2 fun _ _ _ h => h⟩
    · exact p2.elim
  · obtain ⟨vs, H1, I1, r, q1⟩ := h1
    refine thn (hkw.run pos pins s1 σ H1 _ I1 q1) fun ws s2 h2 => ?_
    obtain ⟨zs, H2, I2, rz, l1, l2, hq⟩ := h2
    refine ⟨I2.kIn, ?_⟩
    rw [hks]
    exact run_X Fk hr hb tk I2 r rz l1 l2 hq
end
end
end Z
end

section
set_option Elab.async false
set_option linter.all false
set_option maxRecDepth 100000
set_option maxHeartbeats 3200000
namespace Z
noncomputable section
open PySem PySem.Spec PyProof.Rows L2
/-! ### sorted(set(list of numbers)) -/
abbrev freshSet (w : World) : Obj := { cls := .type "set", dict := none, data := .set #[] 0 (.fresh 0 0 (!w.params.followText "set-order")) }
section
variable {P : Program} {w : World} {A : Around} {E : Value → Shared → Prop} {s : Shared}
theorem call_set_lstI {l : Addr} {items : Array Value} (ns : List Int) {Q : Value → Shared → Prop} (hh : A.handled = none) (hl : s.heap.IsList l items) (hit : IntsAre items.toList ns) (hb : ns.length + 1 < scanBound)
    (h : ∀ (h' : Heap) (tk c : Nat), SetR w h' s.heap.objs.size (fun j => decide (j ∈ ns)) c → c ≤ ns.length → (∀ b o, s.heap.get? b = some o → h'.get? b = some o) → Q (.ref s.heap.objs.size) { s with heap := h', toks := tk }) :
    wpAny (model P w) A (call (.type "set") [.ref l]) Q E s := by
  have hisz : items.size = ns.length := by have q := IntsAre.length hit; rwa [Array.length_toList] at q
  obtain ⟨c, tl, hmro⟩ := F.called_set.mro; have hmade := F.called_set.made; have hsub := F.called_set.sub
  refine wpAny_call (codeAny_of_tree ?_); show wpAny _ _ (callAny (.type "set") _) _ _ _
  refine wpAny_pure ⟨Code.quiet_builtin _ (by decide +kernel), codeAny_builtin F.entry_type_call ?_⟩; rw [Around.under_plain (weight_type_call_type "set" [.ref l] []) rfl]
  have h1 := F.called_set.notType; have h2 := F.called_set.canCreate; have hct := F.typeCall_set_1 (.ref l)
  repeat (any_goals (first | assumption | wp_step))

  refine codeAny_mono (code_set_led1 (.ref l) (E := E) (Q₁ := fun obj s₁ => obj = .ref s.heap.objs.size ∧ s₁ = { s with heap := s.heap.push (freshSet w) }) ⟨rfl, rfl⟩) fun r s₁ hr => ?_
  match r, hr with
  | .error e, hr => exact hr
  | .ok .next, hr => exact hr.elim
  | .ok .brk, hr => exact hr.elim
  | .ok .cont, hr => exact hr.elim
  | .ok (.ret obj), hr =>
    obtain ⟨rfl, rfl⟩ := hr
    have hS : (s.heap.push (freshSet w)).get? s.heap.objs.size = some (freshSet w) := Heap.get?_push_size _ rfl
    have hT : Shared.TypeIs { s with heap := s.heap.push (freshSet w) } (.ref s.heap.objs.size) "set" := ⟨_, hS, rfl⟩
    have hli := F.called_set.init.lookup; have hbi := F.called_set.init.bind (.ref s.heap.objs.size)
    repeat (any_goals (first | assumption | wp_step))

    refine codeAny_mono (codeAny_call_builtin (R := wants (fun r s₂ => r = .none ∧ ∃ h' tk c, s₂ = { s with heap := h', toks := tk } ∧ SetR w h' s.heap.objs.size (fun j => decide (j ∈ ns)) c ∧ c ≤ ns.length ∧ ∀ b o, s.heap.get? b = some o → h'.get? b = some o) E) F.called_set.init.plain F.entry_set_init (check_set_init_1 hT ?_)) fun r₂ s₂ hr₂ => ?_
    · obtain ⟨ol, hol, hcl, nl, hdl⟩ := hl; obtain ⟨ocls, odict, odata, oslots⟩ := ol
      simp only at hcl hdl; subst hcl; subst hdl
      have hol' : (s.heap.push (freshSet w)).get? l = some { cls := .type "list", dict := odict, data := .seq items nl, slots := oslots } := Heap.get?_push_of_some _ hol
      have hsls := F.sub_list_set; have hslf := F.sub_list_frozenset
      have hne : (Value.type "list" == Value.type "dict") = false := by decide
      have hl1 : (s.heap.push (freshSet w)).IsList l items := ⟨_, hol', rfl, nl, rfl⟩
      unfold Builtin.«set.__init__» noKeywords Builtin.Frozenset.updateFrom
      generalize hPI : pyIter = PI; wp_walk; subst hPI

      refine wpAny_pyIter_list hl1 (wpAny_bind (wpAny_runValue ?_))
      have hlS : l < s.heap.objs.size := Heap.lt_size hol
      have hh3 : A.in1.in1.in1.handled = none := by simp [hh]
      have hz : (s.heap.push (freshSet w)).objs.size = s.heap.objs.size + 1 := Heap.size_push ..
      have hneI : l ≠ (s.heap.push (freshSet w)).objs.size := by rw [hz]; exact Nat.ne_of_lt (Nat.lt_succ_of_lt hlS)
      have hSf : s.heap.objs.size ∉ [(s.heap.push (freshSet w)).objs.size, l] := by
        rw [hz]; simp only [List.mem_cons, List.not_mem_nil, or_false, not_or]; exact ⟨Nat.ne_of_lt (Nat.lt_succ_self _), Nat.ne_of_gt hlS⟩
      have hval : ∀ (i : Nat) (v : Value), items[i]? = some v → ∃ k t, ns[i]? = some k ∧ v = .int k t := fun i v hv => by
        have hi : i < ns.length := by rw [← hisz]; exact (Array.getElem?_eq_some_iff.mp hv).1
        obtain ⟨t, e⟩ := PyProof.Rows.IntsAre.int_at hit i v (by rw [Array.getElem?_toList]; exact hv)
        exact ⟨ns[i], t, List.getElem?_eq_getElem hi, by rw [e, List.getD_eq_getElem?_getD, List.getElem?_eq_getElem hi] <;> rfl⟩
      refine set_update_ints ((Walks.list hh3 _ l hneI items).toS) s.heap.objs.size hSf ns hisz hb hval (items.size - 0) 0 _ (by omega) (Nat.zero_le _) ⟨⟨_, Heap.get?_push_size _ rfl, rfl, rfl⟩, hl1.push _⟩ ⟨0, Nat.le_refl 0, setR_new_at (Heap.get?_push_of_some _ hS)⟩ fun s' c' hm hc' hS' => ?_
      obtain ⟨h', g2, d', tk', os'⟩ := s'
      obtain rfl : g2 = s.gens := hm.gens; obtain rfl : d' = s.drawn := hm.drawn; obtain rfl : os' = s.os := hm.os
      rw [hisz] at hc'
      show wpAny _ _ _ _ _ _; refine wpAny_pure ?_; show wpAny _ _ (ret Value.none) _ _ _
      refine wpAny_pure ⟨rfl, h', tk', c', rfl, hS', hc', fun b o e => hm.heap b o ?_ (Heap.get?_push_of_some _ (Heap.get?_push_of_some _ e))⟩
      have hb0 : b < s.heap.objs.size := Heap.lt_size e
      rw [hz]; simp only [List.mem_cons, List.not_mem_nil, or_false, not_or]; exact ⟨Nat.ne_of_lt hb0, Nat.ne_of_lt (Nat.lt_succ_of_lt hb0)⟩
    · match r₂, hr₂ with
      | .error e, hr₂ => exact hr₂
      | .ok .next, hr₂ => exact hr₂.elim
      | .ok .brk, hr₂ => exact hr₂.elim
      | .ok .cont, hr₂ => exact hr₂.elim
      | .ok (.ret r), hr₂ =>
        obtain ⟨rfl, h', tk, c', rfl, hS', hc', hk'⟩ := hr₂
        repeat (any_goals (first | assumption | wp_step))
        exact h _ _ _ hS' hc' hk'
end
section
variable {X : Cx} {W : WX} {e : Expr} {te : TE} {d : Den} {p p2 pos pos2 : Pos}
def rSetLi (K : PySem.W.Frag) (w : World) (vs : List V) (H : Hp) (Q : VK) : Prop := ∃ (l : Addr) (ns : List Int), vs = [V.ref l] ∧ SqL K H l (ns.map V.int) ∧ ns.length < 60 ∧ ∀ (q : Addr) (c : Nat), H q = none → c ≤ ns.length → Q (.ref q) (upd H q (SetO w q (fun j => decide (j ∈ ns)) c))
theorem cr_setLi (hc : X.calm = true) : CallR X (.type "set") (rSetLi X.K X.w) := by
  rintro pins s σ H xs us Q I r ⟨l, ns, rfl, sq, hl, q⟩
  obtain ⟨u, rfl, ru⟩ := r.one
  cases ru
  obtain ⟨its, rv, isL, _⟩ := I.list sq
  refine call_set_lstI ns (I.ok.hd hc) isL.isList (ints_of_vals rv) (by unfold scanBound; omega) fun h' tk c R hcn k => ?_
  exact ⟨.ref s.heap.objs.size, _, I.laid (t' := tk) k (Nat.le_refl _) (setO_new R), rfl, q _ c (I.hok.fresh (Nat.le_refl _)) hcn⟩
def dSoSetL (d : Den) : Den := fun env S => (d env S).bind fun x S1 => match lstOf S1 x with
  | some xs => match intsD xs with
    | some ns => if ns.length < 60 then .ok (.lst ((sset ns).map D.int)) S1 else .bad
    | none => .bad
  | none => .bad
theorem e_soSetL (hc : X.calm = true) (g1 : Gl X "sorted") (m1 : X.mg "sorted" = none) (g2 : Gl X "set") (m2 : X.mg "set" = none) (h : EE X W e d)
    (s1 : starEach [e] X.env = [(false, eval e X.env)] := by rfl) (s2 : starEach [.Call (.Name "set" p2) [e] [] pos2] X.env = [(false, eval (.Call (.Name "set" p2) [e] [] pos2) X.env)] := by rfl) :
    EE X W (.Call (.Name "sorted" p) [.Call (.Name "set" p2) [e] [] pos2] [] pos) (dSoSetL d) := by
  have c1 := pe_callTy (x := "set") (p := p2) (pos := pos2) (cr_setLi hc) g2 m2 boot_set (pa_cons h pa_nil s1) (by decide) (by decide) s1 rfl
  have c2 := pe_callB (x := "sorted") (p := p) (pos := pos) (cr_sortedSet hc) g1 m1 boot_sorted (pa_cons c1 pa_nil s2) (by decide) (by decide) s2 rfl
  refine PE.imp c2 fun σ H Q h => ?_
  obtain ⟨ι, env, S, s, er, p⟩ := h
  refine ⟨ι, env, S, s, er, (Post.bind (Rel' := Rp X.K) p).mono ?_⟩
  rintro x H1 ⟨ι1, dx, S1, e1, s1, r1, p1⟩
  split at p1
  · rename_i xs el
    split at p1
    · rename_i ns en
      split at p1
      · rename_i hl
        obtain ⟨b, vs, rfl, sq, rs⟩ := lst_inv s1 r1 el
        have ev := ints_rps rs en
        subst ev
        refine ⟨b, ns, rfl, sq, hl, fun q c hq hcn => ⟨q, _, c, rfl, upd_same, by omega, fun ms t pw mem hlen ht => ?_⟩⟩
        have em : ms = sset ns := pw_uniq pw sset_pw fun j => by rw [mem, sset_mem, decide_eq_true_eq]
        subst em
        have E1 : Ext ι1 H1 (ι1.ban q) (upd H1 q (SetO X.w q (fun j => decide (j ∈ ns)) c)) := Ext.banned hq
        have S1' := s1.banned (o := SetO X.w q (fun j => decide (j ∈ ns)) c) hq
        exact p1 _ _ _ (E1.tr S1' (Ext.new ht)) (S1'.new ht) (.lst (S1'.out ht) upd_same (int_rps _))
      · exact p1.elim
    · exact p1.elim
  · exact p1.elim
end
end
end Z
end

section
set_option Elab.async false
set_option linter.all false
set_option maxRecDepth 100000
set_option maxHeartbeats 1000000
namespace Z
noncomputable section
open PySem PySem.Spec PyProof.Rows L2
/-! ### x in a list of data of any depth -/
def fInD (neg : Bool) (x y : D) (S : Sto) : R D := match pyS S x, pyS S y with
  | some d, some (.list ds) => if SeqAt.shaped d = true ∧ SeqAt.shaped (.list ds) = true then .ok (.bl (if neg then !(ds.any fun z => PyData.eqv z d) else ds.any fun z => PyData.eqv z d)) S else .bad
  | _, _ => .bad
section
variable {K : PySem.W.Frag}
theorem sInD : OpS K (rInD K) (fInD false) := by
  intro mg W σ ι H S x y dx dy Q s rx ry p
  unfold fInD at p
  split at p
  · rename_i d ds h1 h2
    split at p
    · rename_i hs
      exact ⟨d, ds, dpS_of s rx h1, dpS_of s ry h2, hs.1, hs.2, p.ret s (.bl _)⟩
    · exact p.elim
  · exact p.elim
theorem sNotInD : OpS K (rNotInD K) (fInD true) := by
  intro mg W σ ι H S x y dx dy Q s rx ry p
  unfold fInD at p
  split at p
  · rename_i d ds h1 h2
    split at p
    · rename_i hs
      exact ⟨d, ds, dpS_of s rx h1, dpS_of s ry h2, hs.1, hs.2, p.ret s (.bl _)⟩
    · exact p.elim
  · exact p.elim
theorem room66 {k : Nat} {A : Around} (r : Room k A) : A.units + 65 < cLine := by have := r.un; omega
end
end
end Z
end

section
set_option Elab.async false
set_option linter.all false
set_option maxRecDepth 100000
set_option maxHeartbeats 4000000
namespace K03
open PySem PySem.Spec PyProof.Rows L2 Z
def topS (i : Nat) : Stmt := PySem.Challenge.pw_bellrest_k03_spans_met_and_covered.main.body.getD i (.Pass ⟨0, 0, 0, 0⟩)
abbrev sInvalidMoment : Stmt := inClass (topS 3) 0
abbrev sInvalidSpan : Stmt := inClass (topS 4) 0
abbrev sInvalidTable : Stmt := inClass (topS 5) 0
theorem scInvalidMoment : FnScope ["self", "value"] ["self", "value"] (defScope sInvalidMoment) := ⟨rfl, rfl, rfl, by decide +kernel, rfl, by decide +kernel, by decide +kernel⟩
theorem scInvalidSpan : FnScope ["self", "value"] ["self", "value"] (defScope sInvalidSpan) := ⟨rfl, rfl, rfl, by decide +kernel, rfl, by decide +kernel, by decide +kernel⟩
theorem scInvalidTable : FnScope ["self", "value"] ["self", "value"] (defScope sInvalidTable) := ⟨rfl, rfl, rfl, by decide +kernel, rfl, by decide +kernel, by decide +kernel⟩
abbrev sis_whole : Stmt := topS 7
abbrev Nis_whole : List Str := ["value"]
theorem scis_whole : FnScope Nis_whole ["value"] (defScope sis_whole) := ⟨rfl, rfl, rfl, by decide +kernel, rfl, by decide +kernel, by decide +kernel⟩
abbrev sis_tuple_of : Stmt := topS 8
abbrev Nis_tuple_of : List Str := ["size", "value"]
theorem scis_tuple_of : FnScope Nis_tuple_of ["size", "value"] (defScope sis_tuple_of) := ⟨rfl, rfl, rfl, by decide +kernel, rfl, by decide +kernel, by decide +kernel⟩
abbrev sin_lowest_terms : Stmt := topS 10
abbrev Nin_lowest_terms : List Str := ["numerator", "denominator", "shared"]
theorem scin_lowest_terms : FnScope Nin_lowest_terms ["numerator", "denominator"] (defScope sin_lowest_terms) := ⟨rfl, rfl, rfl, by decide +kernel, rfl, by decide +kernel, by decide +kernel⟩
abbrev sadded : Stmt := topS 11
abbrev Nadded : List Str := ["moments", "total", "numerator", "denominator"]
theorem scadded : FnScope Nadded ["moments"] (defScope sadded) := ⟨rfl, rfl, rfl, by decide +kernel, rfl, by decide +kernel, by decide +kernel⟩
abbrev scompared : Stmt := topS 12
abbrev Ncompared : List Str := ["first", "second", "gap"]
theorem sccompared : FnScope Ncompared ["first", "second"] (defScope scompared) := ⟨rfl, rfl, rfl, by decide +kernel, rfl, by decide +kernel, by decide +kernel⟩
abbrev shalfway : Stmt := topS 13
abbrev Nhalfway : List Str := ["first", "second", "numerator", "denominator"]
theorem schalfway : FnScope Nhalfway ["first", "second"] (defScope shalfway) := ⟨rfl, rfl, rfl, by decide +kernel, rfl, by decide +kernel, by decide +kernel⟩
abbrev sis_edge : Stmt := topS 16
abbrev Nis_edge : List Str := ["value", "limit", "reach"]
theorem scis_edge : FnScope Nis_edge ["value"] (defScope sis_edge) := ⟨rfl, rfl, rfl, by decide +kernel, rfl, by decide +kernel, by decide +kernel⟩
abbrev sis_span : Stmt := topS 17
abbrev Nis_span : List Str := ["value", "low", "high"]
theorem scis_span : FnScope Nis_span ["value"] (defScope sis_span) := ⟨rfl, rfl, rfl, by decide +kernel, rfl, by decide +kernel, by decide +kernel⟩
abbrev shas_moment : Stmt := topS 18
abbrev Nhas_moment : List Str := ["low", "high"]
theorem schas_moment : FnScope Nhas_moment ["low", "high"] (defScope shas_moment) := ⟨rfl, rfl, rfl, by decide +kernel, rfl, by decide +kernel, by decide +kernel⟩
abbrev sspan : Stmt := topS 19
abbrev Nspan : List Str := ["low", "high", "low_reach", "high_reach", "found"]
theorem scspan : FnScope Nspan ["low", "high", "low_reach", "high_reach"] (defScope sspan) := ⟨rfl, rfl, rfl, by decide +kernel, rfl, by decide +kernel, by decide +kernel⟩
abbrev sin_span : Stmt := topS 20
abbrev Nin_span : List Str := ["moment", "span", "low", "high", "place"]
theorem scin_span : FnScope Nin_span ["moment", "span"] (defScope sin_span) := ⟨rfl, rfl, rfl, by decide +kernel, rfl, by decide +kernel, by decide +kernel⟩
abbrev slow_order : Stmt := topS 21
abbrev Nlow_order : List Str := ["edge"]
theorem sclow_order : FnScope Nlow_order ["edge"] (defScope slow_order) := ⟨rfl, rfl, rfl, by decide +kernel, rfl, by decide +kernel, by decide +kernel⟩
abbrev sspan_meet : Stmt := topS 22
abbrev Nspan_meet : List Str := ["spans", "low", "high", "one_low", "one_high"]
theorem scspan_meet : FnScope Nspan_meet ["spans"] (defScope sspan_meet) := ⟨rfl, rfl, rfl, by decide +kernel, rfl, by decide +kernel, by decide +kernel⟩
abbrev sspan_cover : Stmt := topS 23
abbrev Nspan_cover : List Str := ["spans", "low", "one", "highs"]
theorem scspan_cover : FnScope Nspan_cover ["spans"] (defScope sspan_cover) := ⟨rfl, rfl, rfl, by decide +kernel, rfl, by decide +kernel, by decide +kernel⟩
abbrev sspan_moment : Stmt := topS 24
abbrev Nspan_moment : List Str := ["span", "low", "high"]
theorem scspan_moment : FnScope Nspan_moment ["span"] (defScope sspan_moment) := ⟨rfl, rfl, rfl, by decide +kernel, rfl, by decide +kernel, by decide +kernel⟩
abbrev s_law_box : Stmt := topS 26
abbrev N_law_box : List Str := ["script", "great", "state", "cell"]
theorem sc_law_box : FnScope N_law_box ["script"] (defScope s_law_box) := ⟨rfl, rfl, rfl, by decide +kernel, rfl, by decide +kernel, by decide +kernel⟩
abbrev s_law_draw : Stmt := topS 27
abbrev N_law_draw : List Str := ["box", "size", "digit", "mixed"]
theorem sc_law_draw : FnScope N_law_draw ["box", "size"] (defScope s_law_draw) := ⟨rfl, rfl, rfl, by decide +kernel, rfl, by decide +kernel, by decide +kernel⟩
abbrev s_law_pick : Stmt := topS 28
abbrev N_law_pick : List Str := ["box", "row"]
theorem sc_law_pick : FnScope N_law_pick ["box", "row"] (defScope s_law_pick) := ⟨rfl, rfl, rfl, by decide +kernel, rfl, by decide +kernel, by decide +kernel⟩
abbrev s_law_same : Stmt := topS 29
abbrev N_law_same : List Str := ["actual", "due", "k"]
theorem sc_law_same : FnScope N_law_same ["actual", "due"] (defScope s_law_same) := ⟨rfl, rfl, rfl, by decide +kernel, rfl, by decide +kernel, by decide +kernel⟩
abbrev s_law_gcd : Stmt := topS 30
abbrev N_law_gcd : List Str := ["first", "second"]
theorem sc_law_gcd : FnScope N_law_gcd ["first", "second"] (defScope s_law_gcd) := ⟨rfl, rfl, rfl, by decide +kernel, rfl, by decide +kernel, by decide +kernel⟩
abbrev s_law_lowest : Stmt := topS 31
abbrev N_law_lowest : List Str := ["top", "bottom", "common"]
theorem sc_law_lowest : FnScope N_law_lowest ["top", "bottom"] (defScope s_law_lowest) := ⟨rfl, rfl, rfl, by decide +kernel, rfl, by decide +kernel, by decide +kernel⟩
abbrev s_law_limit : Stmt := topS 32
abbrev N_law_limit : List Str := ["box"]
theorem sc_law_limit : FnScope N_law_limit ["box"] (defScope s_law_limit) := ⟨rfl, rfl, rfl, by decide +kernel, rfl, by decide +kernel, by decide +kernel⟩
abbrev s_law_span : Stmt := topS 33
abbrev N_law_span : List Str := ["box", "low", "reach", "choice", "high"]
theorem sc_law_span : FnScope N_law_span ["box"] (defScope s_law_span) := ⟨rfl, rfl, rfl, by decide +kernel, rfl, by decide +kernel, by decide +kernel⟩
abbrev s_law_nearby : Stmt := topS 34
abbrev N_law_nearby : List Str := ["box", "spans", "limit", "pair", "bottom", "top"]
theorem sc_law_nearby : FnScope N_law_nearby ["box", "spans"] (defScope s_law_nearby) := ⟨rfl, rfl, rfl, by decide +kernel, rfl, by decide +kernel, by decide +kernel⟩
abbrev s_law_holds : Stmt := topS 35
abbrev N_law_holds : List Str := ["pair", "one", "low", "high"]
theorem sc_law_holds : FnScope N_law_holds ["pair", "one"] (defScope s_law_holds) := ⟨rfl, rfl, rfl, by decide +kernel, rfl, by decide +kernel, by decide +kernel⟩
abbrev s_law_built : Stmt := topS 36
abbrev N_law_built : List Str := ["box", "pair", "low", "high", "alone", "other", "e", "right"]
theorem sc_law_built : FnScope N_law_built ["box", "pair"] (defScope s_law_built) := ⟨rfl, rfl, rfl, by decide +kernel, rfl, by decide +kernel, by decide +kernel⟩
abbrev s_law_wrong : Stmt := topS 37
abbrev N_law_wrong : List Str := ["box", "choice", "low", "reach", "other", "high"]
theorem sc_law_wrong : FnScope N_law_wrong ["box"] (defScope s_law_wrong) := ⟨rfl, rfl, rfl, by decide +kernel, rfl, by decide +kernel, by decide +kernel⟩
abbrev s_law_met : Stmt := topS 38
abbrev N_law_met : List Str := ["row"]
theorem sc_law_met : FnScope N_law_met ["row"] (defScope s_law_met) := ⟨rfl, rfl, rfl, by decide +kernel, rfl, by decide +kernel, by decide +kernel⟩
abbrev s_law_covered : Stmt := topS 39
abbrev N_law_covered : List Str := ["row"]
theorem sc_law_covered : FnScope N_law_covered ["row"] (defScope s_law_covered) := ⟨rfl, rfl, rfl, by decide +kernel, rfl, by decide +kernel, by decide +kernel⟩
abbrev s_law_hull : Stmt := topS 40
abbrev N_law_hull : List Str := ["halves", "last", "first", "low", "final"]
theorem sc_law_hull : FnScope N_law_hull ["halves", "last"] (defScope s_law_hull) := ⟨rfl, rfl, rfl, by decide +kernel, rfl, by decide +kernel, by decide +kernel⟩
abbrev s_law_top : Stmt := topS 41
abbrev N_law_top : List Str := ["row", "top", "pair"]
theorem sc_law_top : FnScope N_law_top ["row"] (defScope s_law_top) := ⟨rfl, rfl, rfl, by decide +kernel, rfl, by decide +kernel, by decide +kernel⟩
abbrev s_law_joins_hold : Stmt := topS 42
abbrev N_law_joins_hold : List Str := ["row", "last", "halves", "pair", "edge", "common", "some", "half", "holding", "met", "covered", "back"]
theorem sc_law_joins_hold : FnScope N_law_joins_hold ["row"] (defScope s_law_joins_hold) := ⟨rfl, rfl, rfl, by decide +kernel, rfl, by decide +kernel, by decide +kernel⟩
abbrev s_law_moment_of : Stmt := topS 43
abbrev N_law_moment_of : List Str := ["pair"]
theorem sc_law_moment_of : FnScope N_law_moment_of ["pair"] (defScope s_law_moment_of) := ⟨rfl, rfl, rfl, by decide +kernel, rfl, by decide +kernel, by decide +kernel⟩
abbrev slaw : Stmt := topS 44
abbrev Nlaw : List Str := ["script", "box", "row", "k", "pair", "one", "wrong"]
theorem sclaw : FnScope Nlaw ["script"] (defScope slaw) := ⟨rfl, rfl, rfl, by decide +kernel, rfl, by decide +kernel, by decide +kernel⟩
/-! ### what the defs compute -/
noncomputable def Fis_whole : FD := fnF 1 (sRet (dAnd (dIsi .int (dVar 0)) (dNot (dIsi .bool (dVar 0)))))
noncomputable def Fis_tuple_of : FD := fnF 2 (sRet (dAnd (dIsi .tup (dVar 1)) (bin (fEq false) (dCB fLen (aCons (dVar 1) (aNil))) (dVar 0))))
noncomputable def Fin_lowest_terms : FD := fnF 3 (sSeq (sSet 2 (dCB fGcd (aCons (dVar 0) (aCons (dVar 1) (aNil))))) (sRet (dTup (aCons (bin fDiv (dVar 0) (dVar 2)) (aCons (bin fDiv (dVar 1) (dVar 2)) (aNil))))))
noncomputable def Fadded : FD := starF 0 (fnF 4 (sSeq (sSet 1 (dTup (aCons (dC (.int 0)) (aCons (dC (.int 1)) (aNil))))) (sSeq (sFor (iAny (dVar 0)) (gT [gN 2, gN 3]) (sSet 1 (dCall (arity 2 Fin_lowest_terms) [] (aCons (bin fPlus (bin fMul (bin fIx (dVar 1) (dC (.int 0))) (dVar 3)) (bin fMul (dVar 2) (bin fIx (dVar 1) (dC (.int 1))))) (aCons (bin fMul (bin fIx (dVar 1) (dC (.int 1))) (dVar 3)) (aNil)))))) (sRet (dVar 1)))))
noncomputable def Fcompared : FD := fnF 3 (sSeq (sSet 2 (bin fSub (bin fMul (bin fIx (dVar 0) (dC (.int 0))) (bin fIx (dVar 1) (dC (.int 1)))) (bin fMul (bin fIx (dVar 1) (dC (.int 0))) (bin fIx (dVar 0) (dC (.int 1)))))) (sSeq (sIf (tB' (bin fLt (dVar 2) (dC (.int 0)))) (sRet (un fNeg (dC (.int 1)))) (sNil)) (sRet (dIf (tB' (bin fGt (dVar 2) (dC (.int 0)))) (dC (.int 1)) (dC (.int 0))))))
noncomputable def Fhalfway : FD := fnF 4 (sSeq (sAsg (gT [gN 2, gN 3]) (dCallY Fadded (aCons (dVar 0) (aCons (dVar 1) (aNil))))) (sRet (dCall (arity 2 Fin_lowest_terms) [] (aCons (dVar 2) (aCons (bin fMul (dC (.int 2)) (dVar 3)) (aNil))))))
noncomputable def Fis_edge : FD := fnF 3 (sSeq (sIf (tNot' (tB' (dCall (arity 2 Fis_tuple_of) [] (aCons (dC (.int 2)) (aCons (dVar 0) (aNil)))))) (sRet (dC (.bl false))) (sNil)) (sSeq (sAsg (gT [gN 1, gN 2]) (dVar 0)) (sRet (dAnd (dCall (arity 1 Fis_whole) [] (aCons (dVar 1) (aNil))) (dAnd (dCall (arity 1 Fis_whole) [] (aCons (dVar 2) (aNil))) (bin (fInT false) (dVar 2) (dTup (aCons (dC (.int 0)) (aCons (dC (.int 1)) (aNil))))))))))
noncomputable def Fhas_moment : FD := fnF 2 (sSeq (sIf (tOr' (tB' (dIsN (dVar 1))) (tB' (bin fGt (bin fIx (dVar 1) (dC (.int 0))) (bin fIx (dVar 0) (dC (.int 0)))))) (sRet (dC (.bl true))) (sNil)) (sRet (dAnd (bin (fEq false) (bin fIx (dVar 1) (dC (.int 0))) (bin fIx (dVar 0) (dC (.int 0)))) (dAnd (bin (fEq false) (bin fIx (dVar 1) (dC (.int 1))) (dC (.int 1))) (bin (fEq false) (bin fIx (dVar 0) (dC (.int 1))) (dC (.int 1)))))))
noncomputable def Fis_span : FD := fnF 3 (sSeq (sIf (tNot' (tB' (dCall (arity 2 Fis_tuple_of) [] (aCons (dC (.int 2)) (aCons (dVar 0) (aNil)))))) (sRet (dC (.bl false))) (sNil)) (sSeq (sAsg (gT [gN 1, gN 2]) (dVar 0)) (sSeq (sIf (tNot' (tAnd' (tB' (dCall (arity 1 Fis_edge) [] (aCons (dVar 1) (aNil)))) (tB' (bin fGe (bin fIx (dVar 1) (dC (.int 0))) (dC (.int 0)))))) (sRet (dC (.bl false))) (sNil)) (sRet (dOr (dIsN (dVar 2)) (dAnd (dCall (arity 1 Fis_edge) [] (aCons (dVar 2) (aNil))) (dCall (arity 2 Fhas_moment) [] (aCons (dVar 1) (aCons (dVar 2) (aNil))))))))))
noncomputable def Fspan : FD := fnF 5 (sSeq (sSet 4 (dTup (aCons (dTup (aCons (dVar 0) (aCons (dVar 2) (aNil)))) (aCons (dIf (tB' (dIsN (dVar 1))) (dC .non) (dTup (aCons (dVar 1) (aCons (dVar 3) (aNil))))) (aNil))))) (sSeq (sIf (tNot' (tB' (dCall (arity 1 Fis_span) [] (aCons (dVar 4) (aNil))))) (sRaise "InvalidSpan" ["value"] (aCons (dVar 4) (aNil))) (sNil)) (sRet (dVar 4))))
noncomputable def Fin_span : FD := fnF 5 (sSeq (sAsg (gT [gN 2, gN 3]) (dVar 1)) (sSeq (sSet 4 (dCall (arity 2 Fcompared) [] (aCons (dVar 0) (aCons (dTup (aCons (bin fIx (dVar 2) (dC (.int 0))) (aCons (dC (.int 1)) (aNil)))) (aNil))))) (sSeq (sIf (tOr' (tB' (bin fLt (dVar 4) (dC (.int 0)))) (tAnd' (tB' (bin (fEq false) (dVar 4) (dC (.int 0)))) (tB' (bin (fEq false) (bin fIx (dVar 2) (dC (.int 1))) (dC (.int 0)))))) (sRet (dC (.bl false))) (sNil)) (sSeq (sIf (tB' (dIsN (dVar 3))) (sRet (dC (.bl true))) (sNil)) (sSeq (sSet 4 (dCall (arity 2 Fcompared) [] (aCons (dVar 0) (aCons (dTup (aCons (bin fIx (dVar 3) (dC (.int 0))) (aCons (dC (.int 1)) (aNil)))) (aNil))))) (sRet (dOr (bin fLt (dVar 4) (dC (.int 0))) (dAnd (bin (fEq false) (dVar 4) (dC (.int 0))) (bin (fEq false) (bin fIx (dVar 3) (dC (.int 1))) (dC (.int 1)))))))))))
noncomputable def Flow_order : FD := fnF 1 (sRet (dTup (aCons (bin fIx (dVar 0) (dC (.int 0))) (aCons (un fNeg (bin fIx (dVar 0) (dC (.int 1)))) (aNil)))))
noncomputable def Fspan_meet : FD := starF 0 (fnF 5 (sSeq (sAsg (gT [gN 1, gN 2]) (dC (.tup [(.tup [(.int (0)), (.int (1))]), .non]))) (sSeq (sFor (iAny (dVar 0)) (gT [gN 3, gN 4]) (sSeq (sSet 1 (dKeyT Flow_order gtP (aCons (dVar 1) (aCons (dVar 3) (aNil))))) (sIf (tOr' (tB' (dIsN (dVar 2))) (tAnd' (tB' (dNotN (dVar 4))) (tB' (bin fLtD (dVar 4) (dVar 2))))) (sSet 2 (dVar 4)) (sNil)))) (sRet (dIf (tB' (dCall (arity 2 Fhas_moment) [] (aCons (dVar 1) (aCons (dVar 2) (aNil))))) (dTup (aCons (dVar 1) (aCons (dVar 2) (aNil)))) (dC .non))))))
noncomputable def Fspan_cover : FD := starF 0 (fnF 4 (sSeq (sIf (tNot' (tTr (dVar 0))) (sRet (dC .non)) (sNil)) (sSeq (sSet 1 (dKeyL Flow_order ltP (aCons (dLc false (iAny (dVar 0)) [2] (gN 2) (tYesD) (bin fIx (dVar 2) (dC (.int 0)))) (aNil)))) (sSeq (sSet 3 (dLc false (iAny (dVar 0)) [2] (gN 2) (tYesD) (bin fIx (dVar 2) (dC (.int 1))))) (sRet (dTup (aCons (dVar 1) (aCons (dIf (tB' (bin (fInD false) (dC .non) (dVar 3))) (dC .non) (dCB (fBestD gtP) (aCons (dVar 3) (aNil)))) (aNil)))))))))
noncomputable def Fspan_moment : FD := fnF 3 (sSeq (sAsg (gT [gN 1, gN 2]) (dVar 0)) (sSeq (sIf (tB' (bin (fEq false) (bin fIx (dVar 1) (dC (.int 1))) (dC (.int 1)))) (sRet (dTup (aCons (bin fIx (dVar 1) (dC (.int 0))) (aCons (dC (.int 1)) (aNil))))) (sNil)) (sSeq (sIf (tB' (dIsN (dVar 2))) (sRet (dTup (aCons (bin fPlus (bin fIx (dVar 1) (dC (.int 0))) (dC (.int 1))) (aCons (dC (.int 1)) (aNil))))) (sNil)) (sRet (dCall (arity 2 Fhalfway) [] (aCons (dTup (aCons (bin fIx (dVar 1) (dC (.int 0))) (aCons (dC (.int 1)) (aNil)))) (aCons (dTup (aCons (bin fIx (dVar 2) (dC (.int 0))) (aCons (dC (.int 1)) (aNil)))) (aNil))))))))
noncomputable def F_law_box : FD := fnF 4 (sSeq (sSet 1 (dLst true (aNil))) (sSeq (sSet 2 (bin fPlus (dC (.int 101)) (dCB fLen (aCons (dSl false (dVar 0) (oNone) (oSome (dC (.int 63)))) (aNil))))) (sSeq (sFor (iAny (dSl false (dVar 0) (oNone) (oSome (dC (.int 63))))) (gN 3) (sIf (tB' (bin fGe (dVar 3) (bin fPow (dC (.int 10)) (dC (.int 18))))) (sDrop (dBM .list fApp (dVar 1) (aCons (dVar 3) (aNil)))) (sSet 2 (bin fMod (dCB fIntT (aCons (bin fPlus (bin fPlus (bin fMul (dVar 2) (dC (.int 48271))) (bin fMul (dVar 3) (dC (.int 69621)))) (dC (.int 7))) (aNil))) (dC (.int 2147483647)))))) (sSeq (sDrop (dBM0 .list fRevM (dVar 1))) (sRet (dLst true (aCons (dC (.int 0)) (aCons (dVar 1) (aCons (dVar 2) (aCons (dC (.int 0)) (aNil)))))))))))
noncomputable def F_law_draw : FD := fnF 4 (sSeq (sIf (tAnd' (tB' (bin fLt (bin fIx (dVar 0) (dC (.int 0))) (dC (.int 1)))) (tB' (bin (fEq true) (bin fIx (dVar 0) (dC (.int 1))) (dLst false (aNil))))) (sPut (dVar 0) (dC (.int 0)) (dBM0 .list fPop (bin fIx (dVar 0) (dC (.int 1))))) (sNil)) (sSeq (sIf (tB' (bin fGt (bin fIx (dVar 0) (dC (.int 0))) (dC (.int 0)))) (sSeq (sSet 2 (bin fMod (dCB fIntT (aCons (bin fIx (dVar 0) (dC (.int 0))) (aNil))) (dVar 1))) (sSeq (sPut (dVar 0) (dC (.int 0)) (bin fDiv (bin fIx (dVar 0) (dC (.int 0))) (dVar 1))) (sRet (dVar 2)))) (sNil)) (sSeq (sPut (dVar 0) (dC (.int 3)) (bin fPlus (bin fIx (dVar 0) (dC (.int 3))) (dC (.int 1)))) (sSeq (sPut (dVar 0) (dC (.int 2)) (bin fMod (dCB fIntT (aCons (bin fPlus (bin fPlus (bin fMul (bin fIx (dVar 0) (dC (.int 2))) (dC (.int 48271))) (bin fMul (bin fIx (dVar 0) (dC (.int 3))) (dC (.int 69621)))) (dC (.int 5))) (aNil))) (dC (.int 2147483647)))) (sSeq (sSet 3 (bin fMod (dCB fIntT (aCons (bin fPlus (bin fPlus (bin fMul (bin fIx (dVar 0) (dC (.int 2))) (dC (.int 39373))) (bin fMul (bin fIx (dVar 0) (dC (.int 3))) (dC (.int 40692)))) (dC (.int 3))) (aNil))) (dC (.int 2147483399)))) (sRet (bin fMod (bin fDiv (dVar 3) (dC (.int 32))) (dVar 1))))))))
noncomputable def F_law_pick : FD := fnF 2 (sRet (bin fIx (dVar 1) (dCall (arity 2 F_law_draw) [] (aCons (dVar 0) (aCons (dCB fLen (aCons (dVar 1) (aNil))) (aNil))))))
noncomputable def F_law_same : Nat → FD
  | 0 => fun _ _ => .bad
  | n + 1 => fnF 3 (sSeq (sIf (tB' (dIsN (dVar 1))) (sRet (dIsN (dVar 0))) (sNil)) (sSeq (sIf (tB' (dIsB true (dVar 1))) (sRet (dIsB true (dVar 0))) (sNil)) (sSeq (sIf (tB' (dIsB false (dVar 1))) (sRet (dIsB false (dVar 0))) (sNil)) (sSeq (sIf (tB' (dIsi .tup (dVar 1))) (sSeq (sIf (tOr' (tNot' (tB' (dIsi .tup (dVar 0)))) (tB' (bin (fEq true) (dCB fLen (aCons (dVar 0) (aNil))) (dCB fLen (aCons (dVar 1) (aNil)))))) (sRet (dC (.bl false))) (sNil)) (sRet (dCB fAll (aCons (dLc false (iRng1 (aCons (dCB fLen (aCons (dVar 1) (aNil))) (aNil))) [2] (gN 2) (tYesD) (dCall (arity 2 (F_law_same n)) [] (aCons (bin fIx (dVar 0) (dVar 2)) (aCons (bin fIx (dVar 1) (dVar 2)) (aNil))))) aNil)))) (sNil)) (sSeq (sIf (tB' (dIsi .str (dVar 1))) (sRet (dAnd (dIsi .str (dVar 0)) (bin (fEq false) (dVar 0) (dVar 1)))) (sNil)) (sRet (dAnd (dIsi .int (dVar 0)) (dAnd (dNot (dIsi .bool (dVar 0))) (bin (fEq false) (dVar 0) (dVar 1))))))))))
noncomputable def F_law_gcd : FD := fnF 2 (sSeq (sWhile 500 (tB' (bin fGt (dVar 1) (dC (.int 0)))) (sPar 0 1 (aCons (dVar 1) (aCons (bin fMod (dCB fIntT (aCons (dVar 0) (aNil))) (dVar 1)) (aNil))))) (sRet (dVar 0)))
noncomputable def F_law_lowest : FD := fnF 3 (sSeq (sSet 2 (dCall (arity 2 F_law_gcd) [] (aCons (dVar 0) (aCons (dVar 1) (aNil))))) (sRet (dTup (aCons (bin fDiv (dVar 0) (dVar 2)) (aCons (bin fDiv (dVar 1) (dVar 2)) (aNil))))))
noncomputable def F_law_limit : FD := fnF 1 (sRet (dCall (arity 2 F_law_draw) [] (aCons (dVar 0) (aCons (dCall (arity 2 F_law_pick) [] (aCons (dVar 0) (aCons (dLst false (aCons (dC (.int 3)) (aCons (dC (.int 4)) (aCons (dC (.int 10)) (aCons (dC (.int 100)) (aNil)))))) (aNil)))) (aNil)))))
noncomputable def F_law_span : FD := fnF 5 (sSeq (sSet 1 (dCall (arity 1 F_law_limit) [] (aCons (dVar 0) (aNil)))) (sSeq (sSet 2 (dCall (arity 2 F_law_draw) [] (aCons (dVar 0) (aCons (dC (.int 2)) (aNil))))) (sSeq (sSet 3 (dCall (arity 2 F_law_draw) [] (aCons (dVar 0) (aCons (dC (.int 5)) (aNil))))) (sSeq (sIf (tB' (bin (fEq false) (dVar 3) (dC (.int 0)))) (sRet (dTup (aCons (dTup (aCons (dVar 1) (aCons (dVar 2) (aNil)))) (aCons (dC .non) (aNil))))) (sNil)) (sSeq (sIf (tOr' (tB' (bin (fEq false) (dVar 3) (dC (.int 1)))) (tB' (bin (fEq false) (dVar 1) (dC (.int 99))))) (sRet (dTup (aCons (dTup (aCons (dVar 1) (aCons (dC (.int 1)) (aNil)))) (aCons (dTup (aCons (dVar 1) (aCons (dC (.int 1)) (aNil)))) (aNil))))) (sNil)) (sSeq (sSet 4 (dCB fMin2 (aCons (dC (.int 99)) (aCons (bin fPlus (bin fPlus (dVar 1) (dC (.int 1))) (dCall (arity 2 F_law_draw) [] (aCons (dVar 0) (aCons (dCall (arity 2 F_law_pick) [] (aCons (dVar 0) (aCons (dLst false (aCons (dC (.int 1)) (aCons (dC (.int 2)) (aCons (dC (.int 4)) (aCons (dC (.int 99)) (aNil)))))) (aNil)))) (aNil))))) (aNil))))) (sRet (dTup (aCons (dTup (aCons (dVar 1) (aCons (dVar 2) (aNil)))) (aCons (dTup (aCons (dVar 4) (aCons (dCall (arity 2 F_law_draw) [] (aCons (dVar 0) (aCons (dC (.int 2)) (aNil)))) (aNil)))) (aNil)))))))))))
noncomputable def F_law_nearby : FD := fnF 6 (sSeq (sSet 2 (dCall (arity 2 F_law_draw) [] (aCons (dVar 0) (aCons (dC (.int 100)) (aNil))))) (sSeq (sIf (tAnd' (tB' (bin (fEq true) (dVar 1) (dLst false (aNil)))) (tB' (bin fGt (dCall (arity 2 F_law_draw) [] (aCons (dVar 0) (aCons (dC (.int 4)) (aNil)))) (dC (.int 0))))) (sSeq (sSet 3 (dCall (arity 2 F_law_pick) [] (aCons (dVar 0) (aCons (dVar 1) (aNil))))) (sSeq (sSet 2 (bin fIx (bin fIx (dVar 3) (dC (.int 0))) (dC (.int 0)))) (sIf (tAnd' (tB' (dNotN (bin fIx (dVar 3) (dC (.int 1))))) (tB' (bin (fEq false) (dCall (arity 2 F_law_draw) [] (aCons (dVar 0) (aCons (dC (.int 2)) (aNil)))) (dC (.int 1))))) (sSet 2 (bin fIx (bin fIx (dVar 3) (dC (.int 1))) (dC (.int 0)))) (sNil)))) (sNil)) (sSeq (sSet 4 (dCall (arity 2 F_law_pick) [] (aCons (dVar 0) (aCons (dLst false (aCons (dC (.int 1)) (aCons (dC (.int 2)) (aCons (dC (.int 3)) (aCons (dC (.int 7)) (aCons (dC (.int 60)) (aCons (bin fPow (dC (.int 10)) (dC (.int 6))) (aCons (bin fPow (dC (.int 10)) (dC (.int 10))) (aNil))))))))) (aNil))))) (sSeq (sSet 5 (dCB fMax2 (aCons (dC (.int 0)) (aCons (bin fSub (bin fPlus (bin fMul (dVar 2) (dVar 4)) (dCall (arity 2 F_law_draw) [] (aCons (dVar 0) (aCons (dC (.int 3)) (aNil))))) (dC (.int 1))) (aNil))))) (sSeq (sIf (tB' (bin (fEq false) (dCall (arity 2 F_law_draw) [] (aCons (dVar 0) (aCons (dC (.int 4)) (aNil)))) (dC (.int 0)))) (sSet 5 (bin fPlus (bin fMul (dVar 2) (dVar 4)) (dCall (arity 2 F_law_draw) [] (aCons (dVar 0) (aCons (dVar 4) (aNil)))))) (sNil)) (sRet (dCall (arity 2 F_law_lowest) [] (aCons (dVar 5) (aCons (dVar 4) (aNil))))))))))
noncomputable def F_law_holds : FD := fnF 4 (sSeq (sSet 2 (bin fMul (bin fIx (bin fIx (dVar 0) (dC (.int 0))) (dC (.int 0))) (bin fIx (dVar 1) (dC (.int 1))))) (sSeq (sIf (tOr' (tB' (bin fLt (bin fIx (dVar 1) (dC (.int 0))) (dVar 2))) (tAnd' (tB' (bin (fEq false) (bin fIx (dVar 1) (dC (.int 0))) (dVar 2))) (tB' (bin (fEq false) (bin fIx (bin fIx (dVar 0) (dC (.int 0))) (dC (.int 1))) (dC (.int 0)))))) (sRet (dC (.bl false))) (sNil)) (sSeq (sIf (tB' (dIsN (bin fIx (dVar 0) (dC (.int 1))))) (sRet (dC (.bl true))) (sNil)) (sSeq (sSet 3 (bin fMul (bin fIx (bin fIx (dVar 0) (dC (.int 1))) (dC (.int 0))) (bin fIx (dVar 1) (dC (.int 1))))) (sRet (dOr (bin fLt (bin fIx (dVar 1) (dC (.int 0))) (dVar 3)) (dAnd (bin (fEq false) (bin fIx (dVar 1) (dC (.int 0))) (dVar 3)) (bin (fEq false) (bin fIx (bin fIx (dVar 0) (dC (.int 1))) (dC (.int 1))) (dC (.int 1))))))))))
noncomputable def F_law_built : FD := fnF 8 (sSeq (sSet 2 (bin fIx (dVar 1) (dC (.int 0)))) (sSeq (sSet 3 (bin fIx (dVar 1) (dC (.int 1)))) (sSeq (sSet 4 (bin (fEq false) (dCall (arity 2 F_law_draw) [] (aCons (dVar 0) (aCons (dC (.int 2)) (aNil)))) (dC (.int 0)))) (sSeq (sSet 5 (dCall (arity 2 F_law_draw) [] (aCons (dVar 0) (aCons (dC (.int 2)) (aNil))))) (sTry "InvalidSpan" 6 (sSeq (sIf (tB' (dIsN (dVar 3))) (sSeq (sIf (tAnd' (tB' (dVar 4)) (tB' (bin (fEq false) (bin fIx (dVar 2) (dC (.int 1))) (dC (.int 1))))) (sRet (dTup (aCons (dC (.bl true)) (aCons (dCall (arity 4 Fspan) [.non, .int 1, .int 1] (aCons (bin fIx (dVar 2) (dC (.int 0))) (aNil))) (aNil))))) (sNil)) (sRet (dTup (aCons (dC (.bl true)) (aCons (dCallX 2 2 Fspan (fun ds es => match ds, es with | [a0, a1], [b0, b1] => [a0, a1, b0, b1] | _, _ => []) (aCons (bin fIx (dVar 2) (dC (.int 0))) (aCons (dC .non) (aNil))) (aCons (bin fIx (dVar 2) (dC (.int 1))) (aCons (dVar 5) (aNil)))) (aNil)))))) (sNil)) (sSeq (sIf (tAnd' (tB' (dVar 4)) (tAnd' (tB' (bin (fEq false) (bin fIx (dVar 2) (dC (.int 1))) (dC (.int 1)))) (tB' (bin (fEq false) (bin fIx (dVar 3) (dC (.int 1))) (dC (.int 1)))))) (sRet (dTup (aCons (dC (.bl true)) (aCons (dCall (arity 4 Fspan) [.int 1, .int 1] (aCons (bin fIx (dVar 2) (dC (.int 0))) (aCons (bin fIx (dVar 3) (dC (.int 0))) (aNil)))) (aNil))))) (sNil)) (sSeq (sIf (tAnd' (tB' (dVar 4)) (tB' (bin (fEq false) (bin fIx (dVar 3) (dC (.int 1))) (dC (.int 1))))) (sRet (dTup (aCons (dC (.bl true)) (aCons (dCallX 2 1 Fspan (fun ds es => match ds, es with | [a0, a1], [b0] => [a0, a1, b0, (.int 1)] | _, _ => []) (aCons (bin fIx (dVar 2) (dC (.int 0))) (aCons (bin fIx (dVar 3) (dC (.int 0))) (aNil))) (aCons (bin fIx (dVar 2) (dC (.int 1))) (aNil))) (aNil))))) (sNil)) (sSeq (sIf (tAnd' (tB' (dVar 4)) (tB' (bin (fEq false) (bin fIx (dVar 2) (dC (.int 1))) (dC (.int 1))))) (sRet (dTup (aCons (dC (.bl true)) (aCons (dCallX 2 1 Fspan (fun ds es => match ds, es with | [a0, a1], [b0] => [a0, a1, (.int 1), b0] | _, _ => []) (aCons (bin fIx (dVar 2) (dC (.int 0))) (aCons (bin fIx (dVar 3) (dC (.int 0))) (aNil))) (aCons (bin fIx (dVar 3) (dC (.int 1))) (aNil))) (aNil))))) (sNil)) (sRet (dTup (aCons (dC (.bl true)) (aCons (dCallX 2 2 Fspan (fun ds es => match ds, es with | [a0, a1], [b0, b1] => [a0, a1, b0, b1] | _, _ => []) (aCons (bin fIx (dVar 2) (dC (.int 0))) (aCons (bin fIx (dVar 3) (dC (.int 0))) (aNil))) (aCons (bin fIx (dVar 2) (dC (.int 1))) (aCons (bin fIx (dVar 3) (dC (.int 1))) (aNil)))) (aNil))))))))) (fun a dd => sSeq (sSet 7 (dAnd (dXis a dd true (dVar 6)) (dXis a dd true (dVar 6)))) (sSeq (sSet 7 (dAnd (dVar 7) (dAnd (dNot (dXis a dd false (dVar 6))) (dNot (dXis a dd false (dVar 6)))))) (sRet (dTup (aCons (dC (.bl false)) (aCons (dTup (aCons (dXf a dd (PySem.Str.ofString "value") (dVar 6)) (aCons (dVar 7) (aNil)))) (aNil))))))))))))
noncomputable def F_law_wrong : FD := fnF 6 (sSeq (sSet 1 (dCall (arity 2 F_law_draw) [] (aCons (dVar 0) (aCons (dC (.int 3)) (aNil))))) (sSeq (sSet 2 (dCall (arity 1 F_law_limit) [] (aCons (dVar 0) (aNil)))) (sSeq (sSet 3 (dCall (arity 2 F_law_draw) [] (aCons (dVar 0) (aCons (dC (.int 2)) (aNil))))) (sSeq (sSet 4 (dCall (arity 2 F_law_draw) [] (aCons (dVar 0) (aCons (dC (.int 2)) (aNil))))) (sSeq (sIf (tB' (bin (fEq false) (dVar 1) (dC (.int 0)))) (sSeq (sSet 5 (dC .non)) (sSeq (sIf (tB' (bin (fEq false) (dCall (arity 2 F_law_draw) [] (aCons (dVar 0) (aCons (dC (.int 2)) (aNil)))) (dC (.int 1)))) (sSet 5 (dTup (aCons (dCall (arity 1 F_law_limit) [] (aCons (dVar 0) (aNil))) (aCons (dVar 4) (aNil))))) (sNil)) (sRet (dTup (aCons (dTup (aCons (bin fSub (bin fSub (dC (.int 0)) (dC (.int 1))) (bin fMod (dVar 2) (dC (.int 99)))) (aCons (dVar 3) (aNil)))) (aCons (dVar 5) (aNil))))))) (sNil)) (sSeq (sIf (tB' (bin (fEq false) (dVar 1) (dC (.int 1)))) (sSeq (sSet 2 (dCB fMax2 (aCons (dC (.int 1)) (aCons (dVar 2) (aNil))))) (sRet (dTup (aCons (dTup (aCons (dVar 2) (aCons (dVar 3) (aNil)))) (aCons (dTup (aCons (dCall (arity 2 F_law_draw) [] (aCons (dVar 0) (aCons (dVar 2) (aNil)))) (aCons (dVar 4) (aNil)))) (aNil)))))) (sNil)) (sRet (dTup (aCons (dTup (aCons (dVar 2) (aCons (dVar 3) (aNil)))) (aCons (dTup (aCons (dVar 2) (aCons (dIf (tB' (bin (fEq false) (dVar 3) (dC (.int 1)))) (dC (.int 0)) (dVar 4)) (aNil)))) (aNil)))))))))))
noncomputable def F_law_met : FD := fnF 1 (sSeq (sIf (tB' (bin (fEq false) (dCB fLen (aCons (dVar 0) (aNil))) (dC (.int 0)))) (sRet (dCallY Fspan_meet aNil)) (sNil)) (sSeq (sIf (tB' (bin (fEq false) (dCB fLen (aCons (dVar 0) (aNil))) (dC (.int 1)))) (sRet (dCallY Fspan_meet (aCons (bin fIx (dVar 0) (dC (.int 0))) (aNil)))) (sNil)) (sSeq (sIf (tB' (bin (fEq false) (dCB fLen (aCons (dVar 0) (aNil))) (dC (.int 2)))) (sRet (dCallY Fspan_meet (aCons (bin fIx (dVar 0) (dC (.int 0))) (aCons (bin fIx (dVar 0) (dC (.int 1))) (aNil))))) (sNil)) (sSeq (sIf (tB' (bin (fEq false) (dCB fLen (aCons (dVar 0) (aNil))) (dC (.int 3)))) (sRet (dCallY Fspan_meet (aCons (bin fIx (dVar 0) (dC (.int 0))) (aCons (bin fIx (dVar 0) (dC (.int 1))) (aCons (bin fIx (dVar 0) (dC (.int 2))) (aNil)))))) (sNil)) (sSeq (sIf (tB' (bin (fEq false) (dCB fLen (aCons (dVar 0) (aNil))) (dC (.int 4)))) (sRet (dCallY Fspan_meet (aCons (bin fIx (dVar 0) (dC (.int 0))) (aCons (bin fIx (dVar 0) (dC (.int 1))) (aCons (bin fIx (dVar 0) (dC (.int 2))) (aCons (bin fIx (dVar 0) (dC (.int 3))) (aNil))))))) (sNil)) (sRet (dCallY Fspan_meet (aCons (bin fIx (dVar 0) (dC (.int 0))) (aCons (bin fIx (dVar 0) (dC (.int 1))) (aCons (bin fIx (dVar 0) (dC (.int 2))) (aCons (bin fIx (dVar 0) (dC (.int 3))) (aCons (bin fIx (dVar 0) (dC (.int 4))) (aNil)))))))))))))
noncomputable def F_law_covered : FD := fnF 1 (sSeq (sIf (tB' (bin (fEq false) (dCB fLen (aCons (dVar 0) (aNil))) (dC (.int 0)))) (sRet (dCallY Fspan_cover aNil)) (sNil)) (sSeq (sIf (tB' (bin (fEq false) (dCB fLen (aCons (dVar 0) (aNil))) (dC (.int 1)))) (sRet (dCallY Fspan_cover (aCons (bin fIx (dVar 0) (dC (.int 0))) (aNil)))) (sNil)) (sSeq (sIf (tB' (bin (fEq false) (dCB fLen (aCons (dVar 0) (aNil))) (dC (.int 2)))) (sRet (dCallY Fspan_cover (aCons (bin fIx (dVar 0) (dC (.int 0))) (aCons (bin fIx (dVar 0) (dC (.int 1))) (aNil))))) (sNil)) (sSeq (sIf (tB' (bin (fEq false) (dCB fLen (aCons (dVar 0) (aNil))) (dC (.int 3)))) (sRet (dCallY Fspan_cover (aCons (bin fIx (dVar 0) (dC (.int 0))) (aCons (bin fIx (dVar 0) (dC (.int 1))) (aCons (bin fIx (dVar 0) (dC (.int 2))) (aNil)))))) (sNil)) (sSeq (sIf (tB' (bin (fEq false) (dCB fLen (aCons (dVar 0) (aNil))) (dC (.int 4)))) (sRet (dCallY Fspan_cover (aCons (bin fIx (dVar 0) (dC (.int 0))) (aCons (bin fIx (dVar 0) (dC (.int 1))) (aCons (bin fIx (dVar 0) (dC (.int 2))) (aCons (bin fIx (dVar 0) (dC (.int 3))) (aNil))))))) (sNil)) (sRet (dCallY Fspan_cover (aCons (bin fIx (dVar 0) (dC (.int 0))) (aCons (bin fIx (dVar 0) (dC (.int 1))) (aCons (bin fIx (dVar 0) (dC (.int 2))) (aCons (bin fIx (dVar 0) (dC (.int 3))) (aCons (bin fIx (dVar 0) (dC (.int 4))) (aNil)))))))))))))
noncomputable def F_law_hull : FD := fnF 5 (sSeq (sIf (tB' (bin (fEq false) (dVar 0) (dLst false (aNil)))) (sRet (dC .non)) (sNil)) (sSeq (sSet 2 (bin fIx (dVar 0) (dC (.int 0)))) (sSeq (sSet 3 (dTup (aCons (bin fDiv (dVar 2) (dC (.int 2))) (aCons (bin fSub (dC (.int 1)) (bin fMod (dCB fIntT (aCons (dVar 2) (aNil))) (dC (.int 2)))) (aNil))))) (sSeq (sSet 4 (bin fIx (dVar 0) (un fNeg (dC (.int 1))))) (sSeq (sIf (tB' (bin (fEq false) (dVar 4) (dVar 1))) (sRet (dTup (aCons (dVar 3) (aCons (dC .non) (aNil))))) (sNil)) (sRet (dTup (aCons (dVar 3) (aCons (dTup (aCons (bin fDiv (bin fPlus (dVar 4) (dC (.int 1))) (dC (.int 2))) (aCons (bin fSub (dC (.int 1)) (bin fMod (dCB fIntT (aCons (dVar 4) (aNil))) (dC (.int 2)))) (aNil)))) (aNil))))))))))
noncomputable def F_law_top : FD := fnF 3 (sSeq (sSet 1 (dC (.int 0))) (sSeq (sFor (iAny (dVar 0)) (gN 2) (sSeq (sSet 1 (dCB fMax2 (aCons (dVar 1) (aCons (bin fIx (bin fIx (dVar 2) (dC (.int 0))) (dC (.int 0))) (aNil))))) (sIf (tB' (dNotN (bin fIx (dVar 2) (dC (.int 1))))) (sSet 1 (dCB fMax2 (aCons (dVar 1) (aCons (bin fIx (bin fIx (dVar 2) (dC (.int 1))) (dC (.int 0))) (aNil))))) (sNil)))) (sRet (dVar 1))))
noncomputable def F_law_joins_hold : FD := fnF 12 (sSeq (sSet 1 (bin fPlus (bin fMul (dC (.int 2)) (dCall (arity 1 F_law_top) [] (aCons (dVar 0) (aNil)))) (dC (.int 3)))) (sSeq (sSet 2 (dLst false (aCons (dC (.int 0)) (aCons (dVar 1) (aNil))))) (sSeq (sFor (iAny (dVar 0)) (gN 3) (sFor (iAny (dVar 3)) (gN 4) (sIf (tB' (dNotN (dVar 4))) (sSet 2 (bin fPlus (dVar 2) (dLst false (aCons (dCB fMax2 (aCons (dC (.int 0)) (aCons (bin fSub (bin fMul (dC (.int 2)) (bin fIx (dVar 4) (dC (.int 0)))) (dC (.int 1))) (aNil)))) (aCons (bin fMul (dC (.int 2)) (bin fIx (dVar 4) (dC (.int 0)))) (aCons (bin fPlus (bin fMul (dC (.int 2)) (bin fIx (dVar 4) (dC (.int 0)))) (dC (.int 1))) (aNil))))))) (sNil)))) (sSeq (sSet 5 (dLst true (aNil))) (sSeq (sSet 6 (dLst true (aNil))) (sSeq (sFor (iAny (dSoSetL (dVar 2))) (gN 7) (sSeq (sSet 8 (dLc false (iAny (dVar 0)) [3] (gN 3) (tB' (dCall (arity 2 F_law_holds) [] (aCons (dVar 3) (aCons (dTup (aCons (dVar 7) (aCons (dC (.int 2)) (aNil)))) (aNil))))) (dVar 3))) (sSeq (sIf (tB' (bin (fEq false) (dCB fLen (aCons (dVar 8) (aNil))) (dCB fLen (aCons (dVar 0) (aNil))))) (sDrop (dBM .list fApp (dVar 5) (aCons (dVar 7) (aNil)))) (sNil)) (sIf (tB' (bin (fEq true) (dVar 8) (dLst false (aNil)))) (sDrop (dBM .list fApp (dVar 6) (aCons (dVar 7) (aNil)))) (sNil))))) (sSeq (sSet 9 (dCall (arity 2 F_law_hull) [] (aCons (dVar 5) (aCons (dVar 1) (aNil))))) (sSeq (sSet 10 (dCall (arity 2 F_law_hull) [] (aCons (dVar 6) (aCons (dVar 1) (aNil))))) (sSeq (sSet 11 (dRevL false (dVar 0))) (sSeq (sIf (tOr' (tNot' (tB' (dCall (arity 2 (F_law_same 6)) [] (aCons (dCall (arity 1 F_law_met) [] (aCons (dVar 0) (aNil))) (aCons (dVar 9) (aNil)))))) (tNot' (tB' (dCall (arity 2 (F_law_same 6)) [] (aCons (dCall (arity 1 F_law_met) [] (aCons (dVar 11) (aNil))) (aCons (dVar 9) (aNil))))))) (sRet (dC (.bl false))) (sNil)) (sRet (dAnd (dCall (arity 2 (F_law_same 6)) [] (aCons (dCall (arity 1 F_law_covered) [] (aCons (dVar 0) (aNil))) (aCons (dVar 10) (aNil)))) (dCall (arity 2 (F_law_same 6)) [] (aCons (dCall (arity 1 F_law_covered) [] (aCons (dVar 11) (aNil))) (aCons (dVar 10) (aNil))))))))))))))))
noncomputable def F_law_moment_of : FD := fnF 1 (sSeq (sIf (tB' (bin (fEq false) (bin fIx (bin fIx (dVar 0) (dC (.int 0))) (dC (.int 1))) (dC (.int 1)))) (sRet (dTup (aCons (bin fIx (bin fIx (dVar 0) (dC (.int 0))) (dC (.int 0))) (aCons (dC (.int 1)) (aNil))))) (sNil)) (sSeq (sIf (tB' (dIsN (bin fIx (dVar 0) (dC (.int 1))))) (sRet (dTup (aCons (bin fPlus (bin fIx (bin fIx (dVar 0) (dC (.int 0))) (dC (.int 0))) (dC (.int 1))) (aCons (dC (.int 1)) (aNil))))) (sNil)) (sRet (dCall (arity 2 F_law_lowest) [] (aCons (bin fPlus (bin fIx (bin fIx (dVar 0) (dC (.int 0))) (dC (.int 0))) (bin fIx (bin fIx (dVar 0) (dC (.int 1))) (dC (.int 0)))) (aCons (dC (.int 2)) (aNil)))))))
noncomputable def Flaw : FD := fnF 7 (sSeq (sSet 1 (dCall (arity 1 F_law_box) [] (aCons (dVar 0) (aNil)))) (sSeq (sSet 2 (dLst true (aNil))) (sSeq (sFor (iRng1 (aCons (dCall (arity 2 F_law_draw) [] (aCons (dVar 1) (aCons (dC (.int 6)) (aNil)))) (aNil))) (gN 3) (sSeq (sDrop (dBM .list fApp (dVar 2) (aCons (dCall (arity 1 F_law_span) [] (aCons (dVar 1) (aNil))) (aNil)))) (sIf (tAnd' (tB' (bin fGt (dVar 3) (dC (.int 0)))) (tB' (bin (fEq false) (dCall (arity 2 F_law_draw) [] (aCons (dVar 1) (aCons (dC (.int 8)) (aNil)))) (dC (.int 0))))) (sPut (dVar 2) (dVar 3) (bin fIx (dVar 2) (bin fSub (dVar 3) (dC (.int 1))))) (sNil)))) (sSeq (sIf (tOr' (tNot' (tB' (dCall (arity 2 (F_law_same 6)) [] (aCons (dC (.tup [(.tup [(.int (0)), (.int (1))]), .non])) (aCons (dTup (aCons (dTup (aCons (dC (.int 0)) (aCons (dC (.int 1)) (aNil)))) (aCons (dC .non) (aNil)))) (aNil)))))) (tNot' (tB' (dCall (arity 1 F_law_joins_hold) [] (aCons (dVar 2) (aNil)))))) (sRet (dC (.bl false))) (sNil)) (sSeq (sFor (iAny (dVar 2)) (gN 4) (sSeq (sIf (tNot' (tB' (dCall (arity 2 (F_law_same 6)) [] (aCons (dCall (arity 2 F_law_built) [] (aCons (dVar 1) (aCons (dVar 4) (aNil)))) (aCons (dTup (aCons (dC (.bl true)) (aCons (dVar 4) (aNil)))) (aNil)))))) (sRet (dC (.bl false))) (sNil)) (sIf (tNot' (tB' (dCall (arity 2 (F_law_same 6)) [] (aCons (dCall (arity 1 Fspan_moment) [] (aCons (dVar 4) (aNil))) (aCons (dCall (arity 1 F_law_moment_of) [] (aCons (dVar 4) (aNil))) (aNil)))))) (sRet (dC (.bl false))) (sNil)))) (sSeq (sFor (iRng1 (aCons (dC (.int 3)) (aNil))) (gN 3) (sSeq (sSet 5 (dCall (arity 2 F_law_nearby) [] (aCons (dVar 1) (aCons (dVar 2) (aNil))))) (sFor (iAny (bin fPlus (dVar 2) (dLst false (aCons (dTup (aCons (dTup (aCons (dC (.int 0)) (aCons (dC (.int 1)) (aNil)))) (aCons (dC .non) (aNil)))) (aNil))))) (gN 4) (sIf (tNot' (tB' (dCall (arity 2 (F_law_same 6)) [] (aCons (dCall (arity 2 Fin_span) [] (aCons (dVar 5) (aCons (dVar 4) (aNil)))) (aCons (dCall (arity 2 F_law_holds) [] (aCons (dVar 4) (aCons (dVar 5) (aNil)))) (aNil)))))) (sRet (dC (.bl false))) (sNil))))) (sSeq (sSet 6 (dCall (arity 1 F_law_wrong) [] (aCons (dVar 1) (aNil)))) (sSeq (sIf (tNot' (tB' (dCall (arity 2 (F_law_same 6)) [] (aCons (dCall (arity 2 F_law_built) [] (aCons (dVar 1) (aCons (dVar 6) (aNil)))) (aCons (dTup (aCons (dC (.bl false)) (aCons (dTup (aCons (dVar 6) (aCons (dC (.bl true)) (aNil)))) (aNil)))) (aNil)))))) (sRet (dC (.bl false))) (sNil)) (sRet (dCall (arity 1 F_law_joins_hold) [] (aCons (dSl false (dVar 2) (oSome (dC (.int 1))) (oNone)) (aNil))))))))))))
end K03
end

section
set_option Elab.async false
set_option linter.all false
set_option maxRecDepth 100000
set_option maxHeartbeats 1000000
open Z
local macro_rules | `(tactic| walk_at "z") => `(tactic| simp [fnF_eq, sSeq, sSet, sRet, sIf, sDrop, sNil, sAsg, sPar, sPut, F.then_nx, F.then_rt, F.then_bk, F.then_ct, F.then_ex, F.then_bad, F.then_ite, R.lift_ok, R.lift_ex, R.lift_bad, R.lift_ite, R.bind_ok, R.bind_ex, R.bind_bad, R.bind_ite, F.fin_nx, F.fin_rt, F.fin_ex, F.fin_bad, F.fin_ite, dVar, dC, bin, un, dAnd, dOr, dNot, tB', tAnd', tOr', tNot', dIf, asB_bl, aNil, aCons, dTup, mkT, dLst, mkL, fIx, seqOf, lstOf, L2.atI, L2.ixN, fAdd, fPlus, dSl, oSome, oNone, asI, fSl, fInT, fStr, fIntT, fFmt, dFmt, dJs, fPart, fStarts, fFind, fIsdig, fIsasc, fMulS, fSub, fMul, fLt, fGt, fLe, fGe, fEq, fDiv, fMod, fNeg, fPow, arity, dCall, dCallY, dCallK, noEx, dCB, fGcd, fLen, fMax2, fMin2, fInt, gN, gT, gAll, dIsi, fIsi, isTy, refOk, dIsN, dNotN, dIsB, dNotB, isNon, isBl, sz_lt, sz_le, sRaise, sTry, collapse_const, endX, dXf, dXis, dBM, dBM0, fPop, fApp, fRevM, tyD, *])
local macro_rules | `(tactic| walk_at "y") => `(tactic| simp [fnF_eq, sSeq, sSet, sRet, sIf, sDrop, sNil, sAsg, sPar, sPut, F.then_nx, F.then_rt, F.then_bk, F.then_ct, F.then_ex, F.then_bad, F.then_ite, R.lift_ok, R.lift_ex, R.lift_bad, R.lift_ite, R.bind_ok, R.bind_ex, R.bind_bad, R.bind_ite, F.fin_nx, F.fin_rt, F.fin_ex, F.fin_bad, F.fin_ite, dVar, dC, bin, un, dAnd, dOr, dNot, tB', tAnd', tOr', tNot', dIf, asB_bl, aNil, aCons, dTup, mkT, dLst, mkL, fIx, seqOf, lstOf, L2.atI, L2.ixN, fAdd, fPlus, dSl, oSome, oNone, asI, fSl, fInT, fStr, fIntT, fFmt, dFmt, dJs, fPart, fStarts, fFind, fIsdig, fIsasc, fMulS, fSub, fMul, fLt, fGt, fLe, fGe, fEq, fDiv, fMod, fNeg, fPow, arity, dCall, dCallY, dCallK, noEx, dCB, fGcd, fLen, fMax2, fMin2, fInt, sFor, iRng1, fRng1, iSeq, asSeq, iAny, asAny, dIsi, fIsi, isTy, refOk, dIsN, dNotN, dIsB, dNotB, isNon, isBl, sz_lt, sz_le, sRaise, sTry, collapse_const, endX, dXf, dXis, dBM, dBM0, fPop, fApp, fRevM, tyD, *])
namespace K03
abbrev mo (p q : Int) : D := .tup [.int p, .int q]
def g (a b : Int) : Int := ((Nat.gcd a.natAbs b.natAbs : Nat) : Int)
abbrev low (a b : Int) : D := mo (a / g a b) (b / g a b)
theorem g_pos {a b : Int} (h : 0 < b) : 0 < g a b := by
  have : 0 < Nat.gcd a.natAbs b.natAbs := Nat.gcd_pos_of_pos_right _ (by omega)
  unfold g; omega
theorem g_le {a b : Int} (h : 0 < b) : g a b ≤ b := by
  have : Nat.gcd a.natAbs b.natAbs ≤ b.natAbs := Nat.le_of_dvd (by omega) (Nat.gcd_dvd_right _ _)
  unfold g; omega
theorem g_ok {a b : Int} (h : 0 < b) (k : sm 9000 b) : DivOk (g a b) := (k.le (Int.le_of_lt (g_pos h)) (g_le h)).div (g_pos h) (Nat.le_refl _)
theorem same_eq : ∀ (n : Nat) (d : D) (S : Sto), flatD' n d = true → F_law_same (n + 1) [d, d] S = .ok (.bl true) S := by
  intro n
  induction n with
  | zero =>
    intro d S h
    cases d with
    | bl b => cases b <;> (rw [F_law_same]; walk_at "z")
    | non => rw [F_law_same]; walk_at "z"
    | int i => rw [F_law_same]; walk_at "z"
    | str i => rw [F_law_same]; walk_at "z"
    | _ => cases h
  | succ n ih =>
    intro d S h
    cases d with
    | bl b => cases b <;> (rw [F_law_same]; walk_at "z")
    | non => rw [F_law_same]; walk_at "z"
    | int i => rw [F_law_same]; walk_at "z"
    | str i => rw [F_law_same]; walk_at "z"
    | tup xs =>
      rw [flatD', Bool.and_eq_true, decide_eq_true_eq, List.all_eq_true] at h
      obtain ⟨hl, hx⟩ := h
      rw [F_law_same]
      have hr := fRng1_eq (i := (xs.length : Int)) (n := xs.length) (S := S) rfl hl
      have key : lcGo (fun _ => True) (gN 2) tYesD (dCall (arity 2 (F_law_same (n + 1))) [] (aCons (bin fIx (dVar 0) (dVar 2)) (aCons (bin fIx (dVar 1) (dVar 2)) aNil))) (wipeE [some (.tup xs), some (.tup xs), none] [2]) (rngD 0 xs.length) [] S = .ok ([] ++ (rngD 0 xs.length).map fun _ => .bl true) S := by
        refine lcGo_map trivial (fun _ => .bl true) _ _ (by rw [rngD_len, List.length_nil, Nat.zero_add]; exact hl) fun x hx' => ?_
        obtain ⟨i, hi, rfl⟩ := mem_rngD hx'
        refine ⟨_, rfl, rfl, ?_⟩
        have q := ih xs[i] S (hx _ (List.getElem_mem hi))
        have e1 : (0 : Int) ≤ (i : Int) := by omega
        have e2 : (i : Int) < (xs.length : Int) := by omega
        simp [wipeE, gN, dCall, aCons, aNil, bin, dVar, fIx, seqOf, L2.atI, L2.ixN, R.bind_ok, arity, e1, e2, hi, q]
      have hm : (rngD 0 xs.length).map (fun _ => D.bl true) = List.replicate xs.length (.bl true) := by
        rw [List.map_const', rngD_len]
      simp only [List.nil_append, hm] at key
      have hb2 := bools_rep xs.length
      simp [fnF_eq, sSeq, sSet, sRet, sIf, sNil, F.then_nx, F.then_rt, R.lift_ok, R.bind_ok, F.fin_rt, dVar, dC, dIsN, dIsB, isNon, isBl, tB', asB_bl, dIsi, fIsi, refOk, isTy, tOr', tNot', bin, dCB, aCons, aNil, fLen, seqOf, fEq, dLc, iRng1, hr, key, lcEnd, fAll, lstOf, hb2]
    | _ => cases h

def gC : DenT := tB' (bin fGt (dVar 1) (dC (.int 0)))
def gB : SDen := sPar 0 1 (aCons (dVar 1) (aCons (bin fMod (dCB fIntT (aCons (dVar 0) (aNil))) (dVar 1)) (aNil)))
theorem gcd_step {a b : Int} (ha : 0 ≤ a) (hb : 0 < b) : g b (a % b) = g a b := by
  obtain ⟨m, rfl⟩ := Int.eq_ofNat_of_zero_le ha
  obtain ⟨n, rfl⟩ := Int.eq_ofNat_of_zero_le (Int.le_of_lt hb)
  unfold g
  rw [← Int.natCast_emod, Int.natAbs_natCast, Int.natAbs_natCast, Int.natAbs_natCast, Nat.gcd_comm m n, Nat.gcd_rec n m, Nat.gcd_comm n (m % n)]
theorem gcd_go : ∀ (k n : Nat) (a b : Int) (S : Sto), 2 * k + 1 ≤ n → 0 ≤ a → 0 ≤ b → b < 2 ^ k → whileGo gC gB n [some (.int a), some (.int b)] S = .nx [some (.int (g a b)), some (.int 0)] S := by
  have stop : ∀ (n : Nat) (a : Int) (S : Sto), 0 ≤ a → whileGo gC gB (n + 1) [some (.int a), some (.int 0)] S = .nx [some (.int (g a 0)), some (.int 0)] S := fun n a S ha => by
    have e : g a 0 = a := by unfold g; simp; omega
    rw [whileGo, e]
    simp [gC, tB', bin, dVar, dC, fGt, R.bind_ok, asB_bl, R.lift_ok]
  have turn : ∀ (n : Nat) (a b : Int) (S : Sto), 0 < b → whileGo gC gB (n + 1) [some (.int a), some (.int b)] S = whileGo gC gB n [some (.int b), some (.int (a % b))] S := fun n a b S hb => by
    rw [whileGo]
    simp [gC, gB, tB', bin, dVar, dC, fGt, fMod, fInt, fIntT, dCB, aCons, aNil, sPar, R.bind_ok, asB_bl, R.lift_ok, hb]
  intro k
  induction k with
  | zero =>
    intro n a b S hn ha hb hk
    have e : b = 0 := by have : b < 1 := hk; omega
    subst e
    obtain ⟨m, rfl⟩ : ∃ m, n = m + 1 := ⟨n - 1, by omega⟩
    exact stop m a S ha
  | succ k ih =>
    intro n a b S hn ha hb hk
    obtain ⟨m, rfl⟩ : ∃ m, n = m + 2 := ⟨n - 2, by omega⟩
    by_cases h0 : b = 0
    · subst h0; exact stop (m + 1) a S ha
    have hb' : 0 < b := by omega
    rw [turn (m + 1) a b S hb']
    have r0 : 0 ≤ a % b := Int.emod_nonneg _ h0
    have r1 : a % b < b := Int.emod_lt_of_pos _ hb'
    by_cases h1 : a % b = 0
    · rw [h1, ← gcd_step ha hb', h1]; exact stop m b S hb
    have hr : 0 < a % b := by omega
    rw [turn m b (a % b) S hr, ih m (a % b) (b % (a % b)) S (by omega) r0 (Int.emod_nonneg _ h1) ?_, gcd_step hb hr, gcd_step ha hb']
    have s1 : b % (a % b) < a % b := Int.emod_lt_of_pos _ hr
    have hk2 : b < 2 * 2 ^ k := by rw [Int.pow_succ] at hk; omega
    by_cases h2 : 2 * (a % b) ≤ b
    · omega
    · have e : b % (a % b) = b - a % b := by
        have := Int.emod_add_mul_ediv b (a % b)
        have q1 : b / (a % b) = 1 := by
          have l1 : 1 ≤ b / (a % b) := (Int.le_ediv_iff_mul_le hr).mpr (by omega)
          have l2 : b / (a % b) < 2 := (Int.ediv_lt_iff_lt_mul hr).mpr (by omega)
          omega
        rw [q1] at this
        omega
      omega
theorem law_gcd_eq {a b : Int} {S : Sto} (ha : 0 ≤ a) (hb : 0 ≤ b) (k : sm 249 b) : F_law_gcd [.int a, .int b] S = .ok (.int (g a b)) S := by
  have hk : b < 2 ^ 249 := by
    unfold sm at k
    have e : ((2 ^ 249 : Nat) : Int) = 2 ^ 249 := by norm_cast
    omega
  have h := gcd_go 249 500 a b S (by decide) ha hb hk
  have e : F_law_gcd = fnF 2 (sSeq (sWhile 500 gC gB) (sRet (dVar 0))) := rfl
  rw [e]
  simp [fnF_eq, sSeq, sWhile, h, F.then_nx, sRet, dVar, R.lift_ok, F.fin_rt]
theorem law_lowest_eq {a b : Int} {S : Sto} (ha : 0 ≤ a) (hb : 0 < b) (k : sm 249 b) : F_law_lowest [.int a, .int b] S = .ok (low a b) S := by
  have h1 := law_gcd_eq (S := S) ha (Int.le_of_lt hb) k
  have h2 := g_ok (a := a) hb (k.mono (by decide))
  unfold F_law_lowest low
  walk_at "z"

theorem g_scale {k a b : Int} (hk : 0 < k) : g (k * a) (k * b) = k * g a b := by
  unfold g
  rw [Int.natAbs_mul, Int.natAbs_mul, Nat.gcd_mul_left, Int.natCast_mul]
  congr 1
  omega
theorem low_scale {k a b : Int} (hk : 0 < k) : low (k * a) (k * b) = low a b := by
  unfold low
  rw [g_scale hk, Int.mul_ediv_mul_of_pos _ _ hk, Int.mul_ediv_mul_of_pos _ _ hk]
theorem g_dvd_l {a b : Int} : g a b ∣ a := by
  unfold g
  have h := Nat.gcd_dvd_left a.natAbs b.natAbs
  exact Int.ofNat_dvd_left.mpr h
theorem g_dvd_r {a b : Int} : g a b ∣ b := by
  unfold g
  have h := Nat.gcd_dvd_right a.natAbs b.natAbs
  exact Int.ofNat_dvd_left.mpr h
theorem g_one {a b : Int} (hb : 0 < b) : g (a / g a b) (b / g a b) = 1 := by
  have hg := g_pos (a := a) hb
  have e : g (g a b * (a / g a b)) (g a b * (b / g a b)) = g a b * g (a / g a b) (b / g a b) := g_scale hg
  rw [Int.mul_ediv_cancel' g_dvd_l, Int.mul_ediv_cancel' g_dvd_r] at e
  have e2 : g a b * 1 = g a b * g (a / g a b) (b / g a b) := by omega
  exact (Int.eq_of_mul_eq_mul_left (by omega) e2).symm
theorem low_one {a b : Int} (h : g a b = 1) : low a b = mo a b := by
  unfold low; rw [h, Int.ediv_one, Int.ediv_one]
/-- a moment in lowest terms, its numbers below 2 ^ k -/
structure IsM (k : Nat) (p q : Int) : Prop where
  p0 : 0 ≤ p
  q0 : 0 < q
  one : g p q = 1
  ps : sm k p
  qs : sm k q
theorem IsM.mono {k j : Nat} {p q : Int} (h : IsM k p q) (hj : k ≤ j) : IsM j p q := ⟨h.p0, h.q0, h.one, h.ps.mono hj, h.qs.mono hj⟩
theorem isM_low {k : Nat} {a b : Int} (ha : 0 ≤ a) (hb : 0 < b) (sa : sm k a) (sb : sm k b) : IsM k (a / g a b) (b / g a b) := by
  have hg := g_pos (a := a) hb
  have h1 : 0 ≤ a / g a b := Int.ediv_nonneg ha (Int.le_of_lt hg)
  have h2 : 0 < b / g a b := by
    rcases Int.lt_or_le 0 (b / g a b) with h | h
    · exact h
    · have e := Int.mul_ediv_cancel' (g_dvd_r (a := a) (b := b))
      have := Int.mul_nonpos_of_nonneg_of_nonpos (Int.le_of_lt hg) h
      omega
  have l : ∀ x : Int, 0 ≤ x → x / g a b ≤ x := fun x hx => Int.ediv_le_self _ hx
  exact ⟨h1, h2, g_one hb, sa.le h1 (l a ha), sb.le (Int.le_of_lt h2) (l b (Int.le_of_lt hb))⟩
abbrev moD (m : Int × Int) : D := mo m.1 m.2
theorem isM_0 : IsM 1 0 1 := ⟨by decide, by decide, by unfold g; decide, by unfold sm; decide, by unfold sm; decide⟩
def Bx (gs : List Int) (x st c : Int) (rest : Sto) : Sto := .lst (gs.map D.int) :: .lst [.int x, .ref 0, .int st, .int c] :: rest
def IsBox (S rest : Sto) : Prop := ∃ gs x st c, S = Bx gs x st c rest
theorem pyA_ints : ∀ gs : List Int, pyA (gs.map D.int) = some (gs.map PySem.PyData.int)
  | [] => by rw [List.map_nil, pyA]; rfl
  | i :: gs => by rw [List.map_cons, pyA, pyD, pyA_ints gs]; rfl
theorem shaped_ints (gs : List Int) : PySem.SeqAt.shaped (.list (gs.map PySem.PyData.int)) = true := by
  have h1 : ∀ gs : List Int, PySem.PyData.canLayAll0 (gs.map PySem.PyData.int) = true := fun gs => by
    induction gs with
    | nil => simp [PySem.PyData.canLayAll0]
    | cons i gs ih => simp [PySem.PyData.canLayAll0, PySem.PyData.canLay0, ih]
  have h2 : ∀ gs : List Int, PySem.PyData.depthAll (gs.map PySem.PyData.int) ≤ 1 := fun gs => by
    induction gs with
    | nil => simp [PySem.PyData.depthAll]
    | cons i gs ih => simp [PySem.PyData.depthAll, PySem.PyData.depth]; omega
  have h3 := h2 gs
  unfold PySem.SeqAt.shaped
  simp [PySem.PyData.canLay0, PySem.PyData.depth, h1]
  omega
theorem ne_nil {gs : List Int} {S : Sto} (h : S[0]? = some (.lst (gs.map D.int))) : eqN true (.ref 0) (.lst []) S = .ok (.bl (!gs.isEmpty)) S := by
  have e1 : pyS S (.ref 0) = some (.list (gs.map PySem.PyData.int)) := by
    simp only [pyS, h, pyA_ints]; rfl
  have e2 : pyS S (.lst []) = some (.list []) := by simp only [pyS]; rw [pyD, pyA]; rfl
  have s1 := shaped_ints gs
  have s2 : PySem.SeqAt.shaped (.list []) = true := shaped_ints []
  unfold eqN
  rw [e1, e2]
  simp only [s1, s2, and_self, if_true]
  cases gs <;> simp [PySem.PyData.eqv, PySem.PyData.eqvAll]
theorem mulc {j : Int} (h : -(2 ^ 64) < j ∧ j < 2 ^ 64) (i : Int) : MulOk i j := .inl (.inr h)
theorem ne_nil' {gs : List Int} {xs : List D} {c rest} {b : Bool} (hx : xs = gs.map D.int) (hb : b = !gs.isEmpty) : eqN true (.ref 0) (.lst []) (Cell.lst xs :: c :: rest) = .ok (.bl b) (Cell.lst xs :: c :: rest) := by
  subst hx hb
  exact ne_nil rfl
theorem pop_last (gi : List Int) (z : Int) : ((gi ++ [z]).map D.int).dropLast = gi.map D.int := by simp
theorem draw_eq {n : Int} {S rest : Sto} (hS : IsBox S rest) (h0 : 0 < n) (h1 : n < 2 ^ 60) : ∃ d S', F_law_draw [.ref 1, .int n] S = .ok (.int d) S' ∧ IsBox S' rest ∧ 0 ≤ d ∧ d < n := by
  obtain ⟨gs, x, st, c, rfl⟩ := hS
  have m1 := mulc (j := 48271) (by decide)
  have m2 := mulc (j := 69621) (by decide)
  have m3 := mulc (j := 39373) (by decide)
  have m4 := mulc (j := 40692) (by decide)
  have dn : DivOk n := sm.div (a := 60) (by unfold sm; omega) h0 (by decide)
  have d32 : DivOk 32 := sm.div (a := 60) (by unfold sm; decide) (by decide) (by decide)
  have hm : ∀ y : Int, 0 ≤ y % n ∧ y % n < n := fun y => ⟨Int.emod_nonneg _ (by omega), Int.emod_lt_of_pos _ h0⟩
  by_cases hx : x < 1
  · have hx0 : ¬ 0 < x := by omega
    rcases List.eq_nil_or_concat gs with rfl | ⟨gi, z, rfl⟩ <;> (try rw [List.concat_eq_append])
    · have hn := fun c rest => ne_nil' (gs := []) (xs := []) (c := c) (rest := rest) (b := false) rfl rfl
      unfold Bx
      have K : F_law_draw [.ref 1, .int n] (.lst (([] : List Int).map D.int) :: .lst [.int x, .ref 0, .int st, .int c] :: rest) = .ok (.int ((((st * 48271 + (c + 1) * 69621 + 5) % 2147483647) * 39373 + (c + 1) * 40692 + 3) % 2147483399 / 32 % n)) (Bx [] x ((st * 48271 + (c + 1) * 69621 + 5) % 2147483647) (c + 1) rest) := by
        unfold F_law_draw Bx
        walk_at "z"
      exact ⟨_, _, K, ⟨[], x, _, _, rfl⟩, (hm _).1, (hm _).2⟩
    · have hn := fun c rest => ne_nil' (gs := gi ++ [z]) (xs := gi.map D.int ++ [.int z]) (c := c) (rest := rest) (b := true) (by simp) (by simp)
      unfold Bx
      by_cases hz : 0 < z
      · have K : F_law_draw [.ref 1, .int n] (.lst ((gi ++ [z]).map D.int) :: .lst [.int x, .ref 0, .int st, .int c] :: rest) = .ok (.int (z % n)) (Bx gi (z / n) st c rest) := by
          unfold F_law_draw Bx
          walk_at "z"
        exact ⟨_, _, K, ⟨gi, _, _, _, rfl⟩, (hm _).1, (hm _).2⟩
      · have K : F_law_draw [.ref 1, .int n] (.lst ((gi ++ [z]).map D.int) :: .lst [.int x, .ref 0, .int st, .int c] :: rest) = .ok (.int ((((st * 48271 + (c + 1) * 69621 + 5) % 2147483647) * 39373 + (c + 1) * 40692 + 3) % 2147483399 / 32 % n)) (Bx gi z ((st * 48271 + (c + 1) * 69621 + 5) % 2147483647) (c + 1) rest) := by
          unfold F_law_draw Bx
          walk_at "z"
        exact ⟨_, _, K, ⟨gi, _, _, _, rfl⟩, (hm _).1, (hm _).2⟩
  · have hx0 : 0 < x := by omega
    unfold Bx
    have K : F_law_draw [.ref 1, .int n] (.lst (gs.map D.int) :: .lst [.int x, .ref 0, .int st, .int c] :: rest) = .ok (.int (x % n)) (Bx gs (x / n) st c rest) := by
      unfold F_law_draw Bx
      walk_at "z"
    exact ⟨_, _, K, ⟨gs, _, _, _, rfl⟩, (hm _).1, (hm _).2⟩

theorem c6 : L2.CPow 10 6 := by unfold L2.CPow; decide
theorem c5 : L2.CPow 10 5 := by unfold L2.CPow; decide
theorem c10 : L2.CPow 10 10 := by unfold L2.CPow; decide
theorem c18 : L2.CPow 10 18 := by unfold L2.CPow; decide
theorem sm40 {i : Int} (h0 : 0 ≤ i) (h : i < 1099511627776) : sm 40 i := by unfold sm; omega
theorem same_b (b : Bool) (S : Sto) : F_law_same 6 [.bl b, .bl b] S = .ok (.bl true) S := same_eq 5 (.bl b) S rfl
theorem same_i (i : Int) (S : Sto) : F_law_same 6 [.int i, .int i] S = .ok (.bl true) S := same_eq 5 (.int i) S rfl
theorem same_m (a b : Int) (S : Sto) : F_law_same 6 [mo a b, mo a b] S = .ok (.bl true) S := same_eq 5 (mo a b) S rfl
theorem g_comm {a b : Int} : g a b = g b a := by unfold g; rw [Nat.gcd_comm]
theorem cutD_map {α β : Type} (f : α → β) (xs : List α) (l h : Option Int) : cutD (xs.map f) l h = (cutD xs l h).map f := by
  unfold cutD
  rw [List.length_map, List.map_take, List.map_drop]
theorem cut_mem {α : Type} {xs : List α} {l h : Option Int} {x : α} (hx : x ∈ cutD xs l h) : x ∈ xs := by
  unfold cutD at hx
  exact List.mem_of_mem_drop (List.mem_of_mem_take hx)
noncomputable def bB : SDen := sIf (tB' (bin fGe (dVar 3) (bin fPow (dC (.int 10)) (dC (.int 18))))) (sDrop (dBM .list fApp (dVar 1) (aCons (dVar 3) (aNil)))) (sSet 2 (bin fMod (dCB fIntT (aCons (bin fPlus (bin fPlus (bin fMul (dVar 2) (dC (.int 48271))) (bin fMul (dVar 3) (dC (.int 69621)))) (dC (.int 7))) (aNil))) (dC (.int 2147483647))))
theorem box_go {ds : D} : ∀ (zs gs : List Int) (st : Int) (x : Option D), gs.length + zs.length ≤ 1000 →
    ∃ (gs' : List Int) (st' : Int) (x' : Option D), forGo (fun _ => True) (gN 3) bB (zs.map D.int) [some ds, some (.ref 0), some (.int st), x] [.lst (gs.map D.int)] = .nx [some ds, some (.ref 0), some (.int st'), x'] [.lst (gs'.map D.int)]
  | [], gs, st, x, _ => ⟨gs, st, x, forGo_nil trivial⟩
  | z :: zs, gs, st, x, hl => by
    simp only [List.length_cons] at hl
    have h18 := c18
    have m1 := mulc (j := 48271) (by decide)
    have m2 := mulc (j := 69621) (by decide)
    have eg : (gN 3).run (.int z) [some ds, some (.ref 0), some (.int st), x] = some [some ds, some (.ref 0), some (.int st), some (.int z)] := rfl
    by_cases hz : z < 1000000000000000000
    · have eb : bB [some ds, some (.ref 0), some (.int st), some (.int z)] [.lst (gs.map D.int)] = .nx [some ds, some (.ref 0), some (.int ((st * 48271 + z * 69621 + 7) % 2147483647)), some (.int z)] [.lst (gs.map D.int)] := by
        have hz2 : ¬ 1000000000000000000 ≤ z := by omega
        unfold bB
        walk_at "z"
      obtain ⟨gs', st', x', ih⟩ := box_go (ds := ds) zs gs ((st * 48271 + z * 69621 + 7) % 2147483647) (some (.int z)) (by omega)
      refine ⟨gs', st', x', ?_⟩
      rw [List.map_cons, forGo, if_pos trivial, eg]
      simp only [eb]
      exact ih
    · have eb : bB [some ds, some (.ref 0), some (.int st), some (.int z)] [.lst (gs.map D.int)] = .nx [some ds, some (.ref 0), some (.int st), some (.int z)] [.lst ((gs ++ [z]).map D.int)] := by
        have hz2 : 1000000000000000000 ≤ z := by omega
        have hf : FitS gs.length := of_eq_true (sz_lt (by omega))
        unfold bB
        walk_at "z"
      obtain ⟨gs', st', x', ih⟩ := box_go (ds := ds) zs (gs ++ [z]) st (some (.int z)) (by simp only [List.length_append, List.length_cons, List.length_nil]; omega)
      refine ⟨gs', st', x', ?_⟩
      rw [List.map_cons, forGo, if_pos trivial, eg]
      simp only [eb]
      exact ih
theorem box_eq (ns : List Int) (hl : ns.length ≤ 63) : ∃ S', F_law_box [.frz (ns.map D.int)] [] = .ok (.ref 1) S' ∧ IsBox S' [] := by
  have hc : (cutD ns none (some 63)).length ≤ ns.length := cutD_len ns none (some 63)
  obtain ⟨gs, st, x', h⟩ := box_go (ds := .frz (ns.map D.int)) (cutD ns none (some 63)) [] (101 + ((cutD ns none (some 63)).length : Int)) none (by simp only [List.length_nil]; omega)
  have e : F_law_box = fnF 4 (sSeq (sSet 1 (dLst true (aNil))) (sSeq (sSet 2 (bin fPlus (dC (.int 101)) (dCB fLen (aCons (dSl false (dVar 0) (oNone) (oSome (dC (.int 63)))) (aNil))))) (sSeq (sFor (iAny (dSl false (dVar 0) (oNone) (oSome (dC (.int 63))))) (gN 3) bB) (sSeq (sDrop (dBM0 .list fRevM (dVar 1))) (sRet (dLst true (aCons (dC (.int 0)) (aCons (dVar 1) (aCons (dVar 2) (aCons (dC (.int 0)) (aNil))))))))))) := rfl
  have st1 : ∀ xs : List D, still (.lst xs) xs = fun _ => True := fun _ => rfl
  have hf : Fit (cutD ns none (some 63)).length := of_eq_true (sz_le (by omega))
  refine ⟨Bx gs.reverse 0 st 0 [], ?_, ⟨_, _, _, _, rfl⟩⟩
  rw [e]
  unfold Bx
  simp only [List.map_nil] at h
  simp [fnF_eq, sSeq, sSet, sFor, iAny, asAny, asSeq, dLst, mkL, sz_le, aCons, aNil, dC, R.bind_ok, R.lift_ok, dVar, seqOf, lstOf, st1, F.then_nx, h, sRet, F.fin_rt, dSl, oNone, oSome, asI, fSl, cutD_map, hf, bin, dCB, fLen, fAdd, fPlus, sDrop, dBM0, fRevM, tyD]

theorem pick_gen {ds : List D} {S rest : Sto} (hS : IsBox S rest) (hm : 0 < ds.length) (hl : ds.length ≤ 1000) : ∃ d S', F_law_pick [.ref 1, .lst ds] S = .ok d S' ∧ IsBox S' rest ∧ d ∈ ds := by
  obtain ⟨d1, S1, e1, b1, p1, q1⟩ := draw_eq (n := ds.length) hS (by omega) (by omega)
  have hi : d1.toNat < ds.length := by omega
  have hx : ¬ d1 < 0 := by omega
  have K : F_law_pick [.ref 1, .lst ds] S = .ok ds[d1.toNat] S1 := by
    unfold F_law_pick
    walk_at "z"
  exact ⟨_, _, K, b1, List.getElem_mem hi⟩
end K03
end

section
set_option Elab.async false
set_option linter.all false
set_option maxRecDepth 100000
set_option maxHeartbeats 1000000
open Z
local macro_rules | `(tactic| walk_at "z") => `(tactic| simp [fnF_eq, sSeq, sSet, sRet, sIf, sDrop, sNil, sAsg, sPar, sPut, F.then_nx, F.then_rt, F.then_bk, F.then_ct, F.then_ex, F.then_bad, F.then_ite, R.lift_ok, R.lift_ex, R.lift_bad, R.lift_ite, R.bind_ok, R.bind_ex, R.bind_bad, R.bind_ite, F.fin_nx, F.fin_rt, F.fin_ex, F.fin_bad, F.fin_ite, dVar, dC, bin, un, dAnd, dOr, dNot, tB', tAnd', tOr', tNot', dIf, asB_bl, aNil, aCons, dTup, mkT, dLst, mkL, fIx, seqOf, lstOf, L2.atI, L2.ixN, fAdd, fPlus, dSl, oSome, oNone, asI, fSl, fInT, fStr, fIntT, fFmt, dFmt, dJs, fPart, fStarts, fFind, fIsdig, fIsasc, fMulS, fSub, fMul, fLt, fGt, fLe, fGe, fEq, fDiv, fMod, fNeg, fPow, arity, dCall, dCallY, dCallK, dCallX, dSoSetL, noEx, dCB, fGcd, fLen, fMax2, fMin2, fInt, gN, gT, gAll, dIsi, fIsi, isTy, refOk, dIsN, dNotN, dIsB, dNotB, isNon, isBl, sz_lt, sz_le, sRaise, sTry, collapse_const, endX, dXf, dXis, dBM, dBM0, fPop, fApp, fRevM, fIns, fPopAt, tTr, fTr, aStar, dSoSet, sRetN, fTuple, fAbs, tyD, *])
local macro_rules | `(tactic| walk_at "y") => `(tactic| simp [fnF_eq, sSeq, sSet, sRet, sIf, sDrop, sNil, sAsg, sPar, sPut, F.then_nx, F.then_rt, F.then_bk, F.then_ct, F.then_ex, F.then_bad, F.then_ite, R.lift_ok, R.lift_ex, R.lift_bad, R.lift_ite, R.bind_ok, R.bind_ex, R.bind_bad, R.bind_ite, F.fin_nx, F.fin_rt, F.fin_ex, F.fin_bad, F.fin_ite, dVar, dC, bin, un, dAnd, dOr, dNot, tB', tAnd', tOr', tNot', dIf, asB_bl, aNil, aCons, dTup, mkT, dLst, mkL, fIx, seqOf, lstOf, L2.atI, L2.ixN, fAdd, fPlus, dSl, oSome, oNone, asI, fSl, fInT, fStr, fIntT, fFmt, dFmt, dJs, fPart, fStarts, fFind, fIsdig, fIsasc, fMulS, fSub, fMul, fLt, fGt, fLe, fGe, fEq, fDiv, fMod, fNeg, fPow, arity, dCall, dCallY, dCallK, dCallX, dSoSetL, noEx, dCB, fGcd, fLen, fMax2, fMin2, fInt, sFor, iRng1, fRng1, iSeq, asSeq, iAny, asAny, dIsi, fIsi, isTy, refOk, dIsN, dNotN, dIsB, dNotB, isNon, isBl, sz_lt, sz_le, sRaise, sTry, collapse_const, endX, dXf, dXis, dBM, dBM0, fPop, fApp, fRevM, fIns, fPopAt, tTr, fTr, aStar, dSoSet, sRetN, fTuple, fAbs, tyD, *])
local macro_rules | `(tactic| walk_at "v") => `(tactic| simp [fnF_eq, sSeq, sSet, sRet, sIf, sDrop, sNil, sAsg, sPar, sPut, F.then_nx, F.then_rt, F.then_bk, F.then_ct, F.then_ex, F.then_bad, F.then_ite, R.lift_ok, R.lift_ex, R.lift_bad, R.lift_ite, R.bind_ok, R.bind_ex, R.bind_bad, R.bind_ite, F.fin_nx, F.fin_rt, F.fin_ex, F.fin_bad, F.fin_ite, dVar, dC, bin, un, dAnd, dOr, dNot, tB', tAnd', tOr', tNot', dIf, asB_bl, aNil, aCons, dTup, mkT, dLst, mkL, seqOf, lstOf, fAdd, fPlus, dSl, oSome, oNone, asI, fInT, fStr, fIntT, fFmt, dFmt, dJs, fPart, fStarts, fFind, fIsdig, fIsasc, fMulS, fSub, fLt, fGt, fLe, fGe, fEq, fMod, fNeg, fPow, arity, dCall, dCallY, dCallK, dCallX, dSoSetL, noEx, dCB, fGcd, fMax2, fMin2, fInt, gN, gT, gAll, dIsi, fIsi, isTy, refOk, dIsN, dNotN, dIsB, dNotB, isNon, isBl, sz_lt, sz_le, sRaise, sTry, collapse_const, endX, dXf, dXis, dBM, dBM0, tTr, fTr, aStar, sRetN, fAbs, *])
local macro_rules | `(tactic| walk_at "u") => `(tactic| simp [fnF_eq, sSeq, sSet, sRet, sIf, sDrop, sNil, sAsg, sPar, sPut, F.then_nx, F.then_rt, F.then_bk, F.then_ct, F.then_ex, F.then_bad, F.then_ite, R.lift_ok, R.lift_ex, R.lift_bad, R.lift_ite, R.bind_ok, R.bind_ex, R.bind_bad, R.bind_ite, F.fin_nx, F.fin_rt, F.fin_ex, F.fin_bad, F.fin_ite, dVar, dC, bin, un, dAnd, dOr, dNot, tB', tAnd', tOr', tNot', dIf, asB_bl, aNil, aCons, dTup, mkT, dLst, mkL, seqOf, lstOf, fAdd, fPlus, dSl, oSome, oNone, asI, fInT, fStr, fIntT, fFmt, dFmt, dJs, fPart, fStarts, fFind, fIsdig, fIsasc, fMulS, fSub, fLt, fGt, fLe, fGe, fEq, fMod, fNeg, fPow, arity, dCall, dCallY, dCallK, dCallX, dSoSetL, noEx, dCB, fGcd, fMax2, fMin2, fInt, dIsi, fIsi, isTy, refOk, dIsN, dNotN, dIsB, dNotB, isNon, isBl, sz_lt, sz_le, sRaise, sTry, collapse_const, endX, dXf, dXis, dBM, dBM0, tTr, fTr, aStar, sRetN, fAbs, sFor, iAny, iRng1, iEn, *])
local macro_rules | `(tactic| walk_at "t") => `(tactic| simp [fnF_eq, sSeq, sSet, sRet, sIf, sDrop, sNil, sAsg, sPar, sPut, F.then_nx, F.then_rt, F.then_bk, F.then_ct, F.then_ex, F.then_bad, F.then_ite, R.lift_ok, R.lift_ex, R.lift_bad, R.lift_ite, R.bind_ok, R.bind_ex, R.bind_bad, R.bind_ite, F.fin_nx, F.fin_rt, F.fin_ex, F.fin_bad, F.fin_ite, dVar, dC, bin, un, dAnd, dOr, dNot, tB', tAnd', tOr', tNot', dIf, asB_bl, aNil, aCons, dTup, mkT, dLst, mkL, seqOf, lstOf, fAdd, dSl, oSome, oNone, asI, fInT, fStr, fIntT, fFmt, dFmt, dJs, fPart, fStarts, fFind, fIsdig, fIsasc, fMulS, fSub, fLt, fGt, fLe, fGe, fEq, fMod, fNeg, fPow, arity, dCall, dCallY, dCallK, dCallX, dSoSetL, noEx, dCB, fGcd, fMax2, fMin2, fInt, dIsi, fIsi, isTy, refOk, dIsN, dNotN, dIsB, dNotB, isNon, isBl, sz_lt, sz_le, sRaise, sTry, collapse_const, endX, dXf, dXis, dBM, dBM0, tTr, fTr, aStar, sRetN, fAbs, sFor, iAny, iRng1, iEn, *])
namespace K03
def hiD : Option (Int × Int) → D
  | none => .non
  | some m => .tup [.int m.1, .int m.2]
abbrev sp (l r : Int) (h : Option (Int × Int)) : D := .tup [.tup [.int l, .int r], hiD h]
def hiB (n : Int) (l r : Int) : Option (Int × Int) → Prop
  | none => True
  | some m => 0 ≤ m.1 ∧ m.1 ≤ n ∧ (m.2 = 0 ∨ m.2 = 1) ∧ (l < m.1 ∨ l = m.1 ∧ r = 1 ∧ m.2 = 1)
structure IsSp (n : Int) (l r : Int) (h : Option (Int × Int)) : Prop where
  l0 : 0 ≤ l
  ln : l ≤ n
  rb : r = 0 ∨ r = 1
  hb : hiB n l r h
def hiP (p q : Int) : Option (Int × Int) → Prop
  | none => True
  | some m => p < m.1 * q ∨ p = m.1 * q ∧ m.2 = 1
def InS (p q l r : Int) (h : Option (Int × Int)) : Prop := (l * q < p ∨ p = l * q ∧ r = 1) ∧ hiP p q h
open Classical in
noncomputable def inB (p q l r : Int) (h : Option (Int × Int)) : Bool := decide (InS p q l r h)
theorem inB_iff {p q l r : Int} {h : Option (Int × Int)} : inB p q l r h = true ↔ InS p q l r h := by
  unfold inB
  exact Iff.of_eq (@decide_eq_true_eq _ (Classical.propDecidable _))
theorem cmp1 {p q l : Int} {S : Sto} (hp : sm 1000 p) (hq : sm 1000 q) (hl : 0 ≤ l ∧ l < 1000) : Fcompared [mo p q, mo l 1] S = .ok (.int (if p < l * q then -1 else if l * q < p then 1 else 0)) S := by
  have h1 : MulOk p 1 := mulc (by decide) p
  have h2 : MulOk l q := .inl (.inl (by omega))
  unfold Fcompared
  walk_at "z"
  split <;> split <;> first | rfl | omega | (simp_all; done) | (split <;> first | rfl | omega)
theorem cmpx {p q l : Int} {S : Sto} (hp : sm 1000 p) (hq : sm 1000 q) (hl : 0 ≤ l ∧ l < 1000) : ∃ c : Int, Fcompared [mo p q, mo l 1] S = .ok (.int c) S ∧ (c < 0 ↔ p < l * q) ∧ (c = 0 ↔ p = l * q) := by
  refine ⟨_, cmp1 hp hq hl, ?_, ?_⟩
  · split
    · exact ⟨fun _ => by omega, fun _ => by omega⟩
    · split
      · exact ⟨fun h => absurd h (by decide), fun h => by omega⟩
      · exact ⟨fun h => absurd h (by decide), fun h => by omega⟩
  · split
    · exact ⟨fun h => absurd h (by decide), fun h => by omega⟩
    · split
      · exact ⟨fun h => absurd h (by decide), fun h => by omega⟩
      · exact ⟨fun _ => by omega, fun _ => rfl⟩
theorem bl_iff {a b : Bool} (h : a = true ↔ b = true) : a = b := by cases a <;> cases b <;> simp_all
theorem in_span_eq {p q l r n : Int} {h : Option (Int × Int)} {S : Sto} (hp : sm 1000 p) (hq : sm 1000 q) (H : IsSp n l r h) (hn : n < 1000) : Fin_span [mo p q, sp l r h] S = .ok (.bl (inB p q l r h)) S := by
  obtain ⟨l0, ln, rb, hb⟩ := H
  obtain ⟨c, e1, c1, c2⟩ := cmpx (S := S) hp hq (l := l) (by omega)
  cases h with
  | none =>
    have K : Fin_span [mo p q, sp l r none] S = .ok (.bl (if c < 0 ∨ c = 0 ∧ r = 0 then false else true)) S := by
      clear c1 c2
      unfold Fin_span sp hiD
      by_cases a : c < 0
      · walk_at "z"
      · by_cases b : c = 0 <;> by_cases d : r = 0 <;> walk_at "z"
    rw [K]
    congr 2
    apply bl_iff
    rw [inB_iff]
    unfold InS hiP
    split
    · refine ⟨fun h => absurd h (by decide), fun h => ?_⟩
      omega
    · refine ⟨fun _ => ⟨?_, trivial⟩, fun _ => rfl⟩
      omega
  | some m =>
    obtain ⟨m0, mn, mb, _⟩ := hb
    obtain ⟨k, e2, k1, k2⟩ := cmpx (S := S) hp hq (l := m.1) (by omega)
    have K : Fin_span [mo p q, sp l r (some m)] S = .ok (.bl (if c < 0 ∨ c = 0 ∧ r = 0 then false else decide (k < 0 ∨ k = 0 ∧ m.2 = 1))) S := by
      clear c1 c2 k1 k2 mb
      unfold Fin_span sp hiD
      by_cases a : c < 0
      · walk_at "z"
      · by_cases b : c = 0 <;> by_cases d : r = 0 <;> by_cases a' : k < 0 <;> by_cases b' : k = 0 <;> by_cases d' : m.2 = 1 <;> walk_at "z"
    rw [K]
    congr 2
    apply bl_iff
    rw [inB_iff]
    unfold InS hiP
    split
    · refine ⟨fun h => absurd h (by decide), fun h => ?_⟩
      omega
    · rw [decide_eq_true_eq]
      refine ⟨fun h => ⟨?_, ?_⟩, fun h => ?_⟩
      · omega
      · show p < m.1 * q ∨ p = m.1 * q ∧ m.2 = 1
        omega
      · have h2 : p < m.1 * q ∨ p = m.1 * q ∧ m.2 = 1 := h.2
        omega
theorem law_holds_eq {p q l r n : Int} {h : Option (Int × Int)} {S : Sto} (H : IsSp n l r h) (hn : n < 1000) : F_law_holds [sp l r h, mo p q] S = .ok (.bl (inB p q l r h)) S := by
  obtain ⟨l0, ln, rb, hb⟩ := H
  have m1 : MulOk l q := .inl (.inl (by omega))
  generalize hu : l * q = u
  cases h with
  | none =>
    have K : F_law_holds [sp l r none, mo p q] S = .ok (.bl (if p < l * q ∨ p = l * q ∧ r = 0 then false else true)) S := by
      rw [hu]
      unfold F_law_holds sp hiD
      by_cases a : p < u
      · walk_at "z"
      · by_cases b : p = u
        · have b2 : (p = u) = True := eq_true b
          clear b
          by_cases d : r = 0 <;> walk_at "z"
        · by_cases d : r = 0 <;> walk_at "z"
    rw [K]
    congr 2
    apply bl_iff
    rw [inB_iff]
    unfold InS hiP
    split
    · refine ⟨fun h => absurd h (by decide), fun h => ?_⟩
      omega
    · refine ⟨fun _ => ⟨?_, trivial⟩, fun _ => rfl⟩
      omega
  | some m =>
    obtain ⟨m0, mn, mb, _⟩ := hb
    have m2 : MulOk m.1 q := .inl (.inl (by omega))
    generalize hv : m.1 * q = v
    have K : F_law_holds [sp l r (some m), mo p q] S = .ok (.bl (if p < l * q ∨ p = l * q ∧ r = 0 then false else decide (p < m.1 * q ∨ p = m.1 * q ∧ m.2 = 1))) S := by
      rw [hu, hv]
      clear mb
      have t : ∀ (x y : Int), (p < x ∨ (p = x) = True ∧ ¬ p < x ∨ (p = x) = False ∧ ¬ p < x) := fun x y => by
        by_cases a : p < x
        · exact .inl a
        · by_cases b : p = x
          · exact .inr (.inl ⟨eq_true b, a⟩)
          · exact .inr (.inr ⟨eq_false b, a⟩)
      unfold F_law_holds sp hiD
      rcases t u 0 with a | ⟨b, a⟩ | ⟨b, a⟩
      · clear t; walk_at "z"
      · rcases t v 0 with a' | ⟨b', a'⟩ | ⟨b', a'⟩ <;> clear t <;> by_cases d : r = 0 <;> by_cases d' : m.2 = 1 <;> walk_at "z"
      · rcases t v 0 with a' | ⟨b', a'⟩ | ⟨b', a'⟩ <;> clear t <;> by_cases d : r = 0 <;> by_cases d' : m.2 = 1 <;> walk_at "z"
    rw [K]
    congr 2
    apply bl_iff
    rw [inB_iff]
    unfold InS hiP
    split
    · refine ⟨fun h => absurd h (by decide), fun h => ?_⟩
      omega
    · rw [decide_eq_true_eq]
      refine ⟨fun h => ⟨?_, ?_⟩, fun h => ?_⟩
      · omega
      · show p < m.1 * q ∨ p = m.1 * q ∧ m.2 = 1
        omega
      · have h2 : p < m.1 * q ∨ p = m.1 * q ∧ m.2 = 1 := h.2
        omega

end K03
end

section
set_option Elab.async false
set_option linter.all false
set_option maxRecDepth 100000
set_option maxHeartbeats 1000000
open Z
local macro_rules | `(tactic| walk_at "z") => `(tactic| simp [fnF_eq, sSeq, sSet, sRet, sIf, sDrop, sNil, sAsg, sPar, sPut, F.then_nx, F.then_rt, F.then_bk, F.then_ct, F.then_ex, F.then_bad, F.then_ite, R.lift_ok, R.lift_ex, R.lift_bad, R.lift_ite, R.bind_ok, R.bind_ex, R.bind_bad, R.bind_ite, F.fin_nx, F.fin_rt, F.fin_ex, F.fin_bad, F.fin_ite, dVar, dC, bin, un, dAnd, dOr, dNot, tB', tAnd', tOr', tNot', dIf, asB_bl, aNil, aCons, dTup, mkT, dLst, mkL, fIx, seqOf, lstOf, L2.atI, L2.ixN, fAdd, fPlus, dSl, oSome, oNone, asI, fSl, fInT, fStr, fIntT, fFmt, dFmt, dJs, fPart, fStarts, fFind, fIsdig, fIsasc, fMulS, fSub, fMul, fLt, fGt, fLe, fGe, fEq, fDiv, fMod, fNeg, fPow, arity, dCall, dCallY, dCallK, dCallX, dSoSetL, noEx, dCB, fGcd, fLen, fMax2, fMin2, fInt, gN, gT, gAll, dIsi, fIsi, isTy, refOk, dIsN, dNotN, dIsB, dNotB, isNon, isBl, sz_lt, sz_le, sRaise, sTry, collapse_const, endX, dXf, dXis, dBM, dBM0, fPop, fApp, fRevM, fIns, fPopAt, tTr, fTr, aStar, dSoSet, sRetN, fTuple, fAbs, tyD, *])
local macro_rules | `(tactic| walk_at "y") => `(tactic| simp [fnF_eq, sSeq, sSet, sRet, sIf, sDrop, sNil, sAsg, sPar, sPut, F.then_nx, F.then_rt, F.then_bk, F.then_ct, F.then_ex, F.then_bad, F.then_ite, R.lift_ok, R.lift_ex, R.lift_bad, R.lift_ite, R.bind_ok, R.bind_ex, R.bind_bad, R.bind_ite, F.fin_nx, F.fin_rt, F.fin_ex, F.fin_bad, F.fin_ite, dVar, dC, bin, un, dAnd, dOr, dNot, tB', tAnd', tOr', tNot', dIf, asB_bl, aNil, aCons, dTup, mkT, dLst, mkL, fIx, seqOf, lstOf, L2.atI, L2.ixN, fAdd, fPlus, dSl, oSome, oNone, asI, fSl, fInT, fStr, fIntT, fFmt, dFmt, dJs, fPart, fStarts, fFind, fIsdig, fIsasc, fMulS, fSub, fMul, fLt, fGt, fLe, fGe, fEq, fDiv, fMod, fNeg, fPow, arity, dCall, dCallY, dCallK, dCallX, dSoSetL, noEx, dCB, fGcd, fLen, fMax2, fMin2, fInt, sFor, iRng1, fRng1, iSeq, asSeq, iAny, asAny, dIsi, fIsi, isTy, refOk, dIsN, dNotN, dIsB, dNotB, isNon, isBl, sz_lt, sz_le, sRaise, sTry, collapse_const, endX, dXf, dXis, dBM, dBM0, fPop, fApp, fRevM, fIns, fPopAt, tTr, fTr, aStar, dSoSet, sRetN, fTuple, fAbs, tyD, *])
local macro_rules | `(tactic| walk_at "v") => `(tactic| simp [fnF_eq, sSeq, sSet, sRet, sIf, sDrop, sNil, sAsg, sPar, sPut, F.then_nx, F.then_rt, F.then_bk, F.then_ct, F.then_ex, F.then_bad, F.then_ite, R.lift_ok, R.lift_ex, R.lift_bad, R.lift_ite, R.bind_ok, R.bind_ex, R.bind_bad, R.bind_ite, F.fin_nx, F.fin_rt, F.fin_ex, F.fin_bad, F.fin_ite, dVar, dC, bin, un, dAnd, dOr, dNot, tB', tAnd', tOr', tNot', dIf, asB_bl, aNil, aCons, dTup, mkT, dLst, mkL, seqOf, lstOf, fAdd, fPlus, dSl, oSome, oNone, asI, fInT, fStr, fIntT, fFmt, dFmt, dJs, fPart, fStarts, fFind, fIsdig, fIsasc, fMulS, fSub, fLt, fGt, fLe, fGe, fEq, fMod, fNeg, fPow, arity, dCall, dCallY, dCallK, dCallX, dSoSetL, noEx, dCB, fGcd, fMax2, fMin2, fInt, gN, gT, gAll, dIsi, fIsi, isTy, refOk, dIsN, dNotN, dIsB, dNotB, isNon, isBl, sz_lt, sz_le, sRaise, sTry, collapse_const, endX, dXf, dXis, dBM, dBM0, tTr, fTr, aStar, sRetN, fAbs, *])
local macro_rules | `(tactic| walk_at "u") => `(tactic| simp [fnF_eq, sSeq, sSet, sRet, sIf, sDrop, sNil, sAsg, sPar, sPut, F.then_nx, F.then_rt, F.then_bk, F.then_ct, F.then_ex, F.then_bad, F.then_ite, R.lift_ok, R.lift_ex, R.lift_bad, R.lift_ite, R.bind_ok, R.bind_ex, R.bind_bad, R.bind_ite, F.fin_nx, F.fin_rt, F.fin_ex, F.fin_bad, F.fin_ite, dVar, dC, bin, un, dAnd, dOr, dNot, tB', tAnd', tOr', tNot', dIf, asB_bl, aNil, aCons, dTup, mkT, dLst, mkL, seqOf, lstOf, fAdd, fPlus, dSl, oSome, oNone, asI, fInT, fStr, fIntT, fFmt, dFmt, dJs, fPart, fStarts, fFind, fIsdig, fIsasc, fMulS, fSub, fLt, fGt, fLe, fGe, fEq, fMod, fNeg, fPow, arity, dCall, dCallY, dCallK, dCallX, dSoSetL, noEx, dCB, fGcd, fMax2, fMin2, fInt, dIsi, fIsi, isTy, refOk, dIsN, dNotN, dIsB, dNotB, isNon, isBl, sz_lt, sz_le, sRaise, sTry, collapse_const, endX, dXf, dXis, dBM, dBM0, tTr, fTr, aStar, sRetN, fAbs, sFor, iAny, iRng1, iEn, *])
local macro_rules | `(tactic| walk_at "t") => `(tactic| simp [fnF_eq, sSeq, sSet, sRet, sIf, sDrop, sNil, sAsg, sPar, sPut, F.then_nx, F.then_rt, F.then_bk, F.then_ct, F.then_ex, F.then_bad, F.then_ite, R.lift_ok, R.lift_ex, R.lift_bad, R.lift_ite, R.bind_ok, R.bind_ex, R.bind_bad, R.bind_ite, F.fin_nx, F.fin_rt, F.fin_ex, F.fin_bad, F.fin_ite, dVar, dC, bin, un, dAnd, dOr, dNot, tB', tAnd', tOr', tNot', dIf, asB_bl, aNil, aCons, dTup, mkT, dLst, mkL, seqOf, lstOf, fAdd, dSl, oSome, oNone, asI, fInT, fStr, fIntT, fFmt, dFmt, dJs, fPart, fStarts, fFind, fIsdig, fIsasc, fMulS, fSub, fLt, fGt, fLe, fGe, fEq, fMod, fNeg, fPow, arity, dCall, dCallY, dCallK, dCallX, dSoSetL, noEx, dCB, fGcd, fMax2, fMin2, fInt, dIsi, fIsi, isTy, refOk, dIsN, dNotN, dIsB, dNotB, isNon, isBl, sz_lt, sz_le, sRaise, sTry, collapse_const, endX, dXf, dXis, dBM, dBM0, tTr, fTr, aStar, sRetN, fAbs, sFor, iAny, iRng1, iEn, *])
namespace K03
theorem mem4 {a b c d x : D} {P : D → Prop} (h : x ∈ [a, b, c, d]) (h1 : P a) (h2 : P b) (h3 : P c) (h4 : P d) : P x := by
  rcases List.mem_cons.mp h with rfl | h
  · exact h1
  rcases List.mem_cons.mp h with rfl | h
  · exact h2
  rcases List.mem_cons.mp h with rfl | h
  · exact h3
  rw [List.mem_singleton.mp h]; exact h4
theorem pick4 {a b c d : Int} {S rest : Sto} (hS : IsBox S rest) : ∃ i S', F_law_pick [.ref 1, .lst [.int a, .int b, .int c, .int d]] S = .ok (.int i) S' ∧ IsBox S' rest ∧ (i = a ∨ i = b ∨ i = c ∨ i = d) := by
  obtain ⟨x, S1, e1, b1, m1⟩ := pick_gen (ds := [.int a, .int b, .int c, .int d]) hS (by simp) (by simp)
  obtain ⟨i, rfl, hi⟩ : ∃ i, x = .int i ∧ (i = a ∨ i = b ∨ i = c ∨ i = d) := mem4 (P := fun x => ∃ i, x = .int i ∧ (i = a ∨ i = b ∨ i = c ∨ i = d)) m1 ⟨_, rfl, by simp⟩ ⟨_, rfl, by simp⟩ ⟨_, rfl, by simp⟩ ⟨_, rfl, by simp⟩
  exact ⟨i, S1, e1, b1, hi⟩
theorem limit_eq {S rest : Sto} (hS : IsBox S rest) : ∃ l S', F_law_limit [.ref 1] S = .ok (.int l) S' ∧ IsBox S' rest ∧ 0 ≤ l ∧ l ≤ 99 := by
  obtain ⟨i, S1, e1, b1, hi⟩ := pick4 (a := 3) (b := 4) (c := 10) (d := 100) hS
  obtain ⟨l, S2, e2, b2, p2, q2⟩ := draw_eq (n := i) b1 (by omega) (by omega)
  refine ⟨l, S2, ?_, b2, p2, by omega⟩
  unfold F_law_limit
  walk_at "z"
theorem span_eq {S rest : Sto} (hS : IsBox S rest) : ∃ l r h S', F_law_span [.ref 1] S = .ok (sp l r h) S' ∧ IsBox S' rest ∧ IsSp 99 l r h := by
  obtain ⟨l, S1, e1, b1, l0, l9⟩ := limit_eq hS
  obtain ⟨r, S2, e2, b2, r0, r1⟩ := draw_eq (n := 2) b1 (by decide) (by decide)
  obtain ⟨c, S3, e3, b3, c0, c1⟩ := draw_eq (n := 5) b2 (by decide) (by decide)
  have rb : r = 0 ∨ r = 1 := by omega
  by_cases h0 : c = 0
  · refine ⟨l, r, none, S3, ?_, b3, l0, l9, rb, trivial⟩
    unfold F_law_span sp hiD
    walk_at "z"
  by_cases h1 : c = 1
  · refine ⟨l, 1, some (l, 1), S3, ?_, b3, l0, l9, .inr rfl, l0, l9, .inr rfl, .inr ⟨rfl, rfl, rfl⟩⟩
    unfold F_law_span sp hiD
    walk_at "z"
  by_cases h9 : l = 99
  · refine ⟨l, 1, some (l, 1), S3, ?_, b3, l0, l9, .inr rfl, l0, l9, .inr rfl, .inr ⟨rfl, rfl, rfl⟩⟩
    unfold F_law_span sp hiD
    walk_at "z"
  obtain ⟨i, S4, e4, b4, hi⟩ := pick4 (a := 1) (b := 2) (c := 4) (d := 99) b3
  obtain ⟨d, S5, e5, b5, d0, d1⟩ := draw_eq (n := i) b4 (by omega) (by omega)
  obtain ⟨b, S6, e6, b6, p6, q6⟩ := draw_eq (n := 2) b5 (by decide) (by decide)
  refine ⟨l, r, some (if l + 1 + d < 99 then l + 1 + d else 99, b), S6, ?_, b6, l0, l9, rb, ?_⟩
  · clear hi rb
    unfold F_law_span sp hiD
    walk_at "z"
  · refine ⟨?_, ?_, by show b = 0 ∨ b = 1; omega, .inl ?_⟩
    · show 0 ≤ (if l + 1 + d < 99 then l + 1 + d else 99 : Int)
      split <;> omega
    · show (if l + 1 + d < 99 then l + 1 + d else 99 : Int) ≤ 99
      split <;> omega
    · show l < (if l + 1 + d < 99 then l + 1 + d else 99 : Int)
      split <;> omega
theorem mul_ed {g q : Int} (hg : 0 < g) (hd : g ∣ q) : q = g * (q / g) := (Int.mul_ediv_cancel' hd).symm
theorem lt_sc {g a b : Int} (hg : 0 < g) : g * a < g * b ↔ a < b := Int.mul_lt_mul_left hg
theorem eq_sc {g a b : Int} (hg : 0 < g) : g * a = g * b ↔ a = b := ⟨fun h => Int.eq_of_mul_eq_mul_left (by omega) h, fun h => by rw [h]⟩
theorem inS_sc {g p q l r : Int} {h : Option (Int × Int)} (hg : 0 < g) : InS (g * p) (g * q) l r h ↔ InS p q l r h := by
  have e : ∀ k : Int, k * (g * q) = g * (k * q) := fun k => Int.mul_left_comm k g q
  unfold InS
  rw [e, lt_sc hg, eq_sc hg]
  cases h with
  | none => exact Iff.rfl
  | some m =>
    unfold hiP
    simp only [e, lt_sc hg, eq_sc hg]
theorem inS_low {t b l r : Int} {h : Option (Int × Int)} (hb : 0 < b) (H : InS t b l r h) : InS (t / g t b) (b / g t b) l r h := by
  have hg := g_pos (a := t) hb
  rw [← inS_sc hg, Int.mul_ediv_cancel' g_dvd_l, Int.mul_ediv_cancel' g_dvd_r]
  exact H
theorem pick3 {a b c : Int} {S rest : Sto} (hS : IsBox S rest) : ∃ i S', F_law_pick [.ref 1, .lst [.int a, .int b, .int c]] S = .ok (.int i) S' ∧ IsBox S' rest ∧ (i = a ∨ i = b ∨ i = c) := by
  obtain ⟨x, S1, e1, b1, m1⟩ := pick_gen (ds := [.int a, .int b, .int c]) hS (by simp) (by simp)
  obtain ⟨i, rfl, hi⟩ : ∃ i, x = .int i ∧ (i = a ∨ i = b ∨ i = c) := by
    simp only [List.mem_cons, List.not_mem_nil, or_false] at m1
    rcases m1 with rfl | rfl | rfl
    · exact ⟨_, rfl, .inl rfl⟩
    · exact ⟨_, rfl, .inr (.inl rfl)⟩
    · exact ⟨_, rfl, .inr (.inr rfl)⟩
  exact ⟨i, S1, e1, b1, hi⟩

end K03
end

section
set_option Elab.async false
set_option linter.all false
set_option maxRecDepth 100000
set_option maxHeartbeats 1000000
open Z
local macro_rules | `(tactic| walk_at "z") => `(tactic| simp [fnF_eq, sSeq, sSet, sRet, sIf, sDrop, sNil, sAsg, sPar, sPut, F.then_nx, F.then_rt, F.then_bk, F.then_ct, F.then_ex, F.then_bad, F.then_ite, R.lift_ok, R.lift_ex, R.lift_bad, R.lift_ite, R.bind_ok, R.bind_ex, R.bind_bad, R.bind_ite, F.fin_nx, F.fin_rt, F.fin_ex, F.fin_bad, F.fin_ite, dVar, dC, bin, un, dAnd, dOr, dNot, tB', tAnd', tOr', tNot', dIf, asB_bl, aNil, aCons, dTup, mkT, dLst, mkL, fIx, seqOf, lstOf, L2.atI, L2.ixN, fAdd, fPlus, dSl, oSome, oNone, asI, fSl, fInT, fStr, fIntT, fFmt, dFmt, dJs, fPart, fStarts, fFind, fIsdig, fIsasc, fMulS, fSub, fMul, fLt, fGt, fLe, fGe, fEq, fDiv, fMod, fNeg, fPow, arity, dCall, dCallY, dCallK, dCallX, dSoSetL, noEx, dCB, fGcd, fLen, fMax2, fMin2, fInt, gN, gT, gAll, dIsi, fIsi, isTy, refOk, dIsN, dNotN, dIsB, dNotB, isNon, isBl, sz_lt, sz_le, sRaise, sTry, collapse_const, endX, dXf, dXis, dBM, dBM0, fPop, fApp, fRevM, fIns, fPopAt, tTr, fTr, aStar, dSoSet, sRetN, fTuple, fAbs, tyD, *])
local macro_rules | `(tactic| walk_at "y") => `(tactic| simp [fnF_eq, sSeq, sSet, sRet, sIf, sDrop, sNil, sAsg, sPar, sPut, F.then_nx, F.then_rt, F.then_bk, F.then_ct, F.then_ex, F.then_bad, F.then_ite, R.lift_ok, R.lift_ex, R.lift_bad, R.lift_ite, R.bind_ok, R.bind_ex, R.bind_bad, R.bind_ite, F.fin_nx, F.fin_rt, F.fin_ex, F.fin_bad, F.fin_ite, dVar, dC, bin, un, dAnd, dOr, dNot, tB', tAnd', tOr', tNot', dIf, asB_bl, aNil, aCons, dTup, mkT, dLst, mkL, fIx, seqOf, lstOf, L2.atI, L2.ixN, fAdd, fPlus, dSl, oSome, oNone, asI, fSl, fInT, fStr, fIntT, fFmt, dFmt, dJs, fPart, fStarts, fFind, fIsdig, fIsasc, fMulS, fSub, fMul, fLt, fGt, fLe, fGe, fEq, fDiv, fMod, fNeg, fPow, arity, dCall, dCallY, dCallK, dCallX, dSoSetL, noEx, dCB, fGcd, fLen, fMax2, fMin2, fInt, sFor, iRng1, fRng1, iSeq, asSeq, iAny, asAny, dIsi, fIsi, isTy, refOk, dIsN, dNotN, dIsB, dNotB, isNon, isBl, sz_lt, sz_le, sRaise, sTry, collapse_const, endX, dXf, dXis, dBM, dBM0, fPop, fApp, fRevM, fIns, fPopAt, tTr, fTr, aStar, dSoSet, sRetN, fTuple, fAbs, tyD, *])
local macro_rules | `(tactic| walk_at "v") => `(tactic| simp [fnF_eq, sSeq, sSet, sRet, sIf, sDrop, sNil, sAsg, sPar, sPut, F.then_nx, F.then_rt, F.then_bk, F.then_ct, F.then_ex, F.then_bad, F.then_ite, R.lift_ok, R.lift_ex, R.lift_bad, R.lift_ite, R.bind_ok, R.bind_ex, R.bind_bad, R.bind_ite, F.fin_nx, F.fin_rt, F.fin_ex, F.fin_bad, F.fin_ite, dVar, dC, bin, un, dAnd, dOr, dNot, tB', tAnd', tOr', tNot', dIf, asB_bl, aNil, aCons, dTup, mkT, dLst, mkL, seqOf, lstOf, fAdd, fPlus, dSl, oSome, oNone, asI, fInT, fStr, fIntT, fFmt, dFmt, dJs, fPart, fStarts, fFind, fIsdig, fIsasc, fMulS, fSub, fLt, fGt, fLe, fGe, fEq, fMod, fNeg, fPow, arity, dCall, dCallY, dCallK, dCallX, dSoSetL, noEx, dCB, fGcd, fMax2, fMin2, fInt, gN, gT, gAll, dIsi, fIsi, isTy, refOk, dIsN, dNotN, dIsB, dNotB, isNon, isBl, sz_lt, sz_le, sRaise, sTry, collapse_const, endX, dXf, dXis, dBM, dBM0, tTr, fTr, aStar, sRetN, fAbs, *])
local macro_rules | `(tactic| walk_at "u") => `(tactic| simp [fnF_eq, sSeq, sSet, sRet, sIf, sDrop, sNil, sAsg, sPar, sPut, F.then_nx, F.then_rt, F.then_bk, F.then_ct, F.then_ex, F.then_bad, F.then_ite, R.lift_ok, R.lift_ex, R.lift_bad, R.lift_ite, R.bind_ok, R.bind_ex, R.bind_bad, R.bind_ite, F.fin_nx, F.fin_rt, F.fin_ex, F.fin_bad, F.fin_ite, dVar, dC, bin, un, dAnd, dOr, dNot, tB', tAnd', tOr', tNot', dIf, asB_bl, aNil, aCons, dTup, mkT, dLst, mkL, seqOf, lstOf, fAdd, fPlus, dSl, oSome, oNone, asI, fInT, fStr, fIntT, fFmt, dFmt, dJs, fPart, fStarts, fFind, fIsdig, fIsasc, fMulS, fSub, fLt, fGt, fLe, fGe, fEq, fMod, fNeg, fPow, arity, dCall, dCallY, dCallK, dCallX, dSoSetL, noEx, dCB, fGcd, fMax2, fMin2, fInt, dIsi, fIsi, isTy, refOk, dIsN, dNotN, dIsB, dNotB, isNon, isBl, sz_lt, sz_le, sRaise, sTry, collapse_const, endX, dXf, dXis, dBM, dBM0, tTr, fTr, aStar, sRetN, fAbs, sFor, iAny, iRng1, iEn, *])
local macro_rules | `(tactic| walk_at "t") => `(tactic| simp [fnF_eq, sSeq, sSet, sRet, sIf, sDrop, sNil, sAsg, sPar, sPut, F.then_nx, F.then_rt, F.then_bk, F.then_ct, F.then_ex, F.then_bad, F.then_ite, R.lift_ok, R.lift_ex, R.lift_bad, R.lift_ite, R.bind_ok, R.bind_ex, R.bind_bad, R.bind_ite, F.fin_nx, F.fin_rt, F.fin_ex, F.fin_bad, F.fin_ite, dVar, dC, bin, un, dAnd, dOr, dNot, tB', tAnd', tOr', tNot', dIf, asB_bl, aNil, aCons, dTup, mkT, dLst, mkL, seqOf, lstOf, fAdd, dSl, oSome, oNone, asI, fInT, fStr, fIntT, fFmt, dFmt, dJs, fPart, fStarts, fFind, fIsdig, fIsasc, fMulS, fSub, fLt, fGt, fLe, fGe, fEq, fMod, fNeg, fPow, arity, dCall, dCallY, dCallK, dCallX, dSoSetL, noEx, dCB, fGcd, fMax2, fMin2, fInt, dIsi, fIsi, isTy, refOk, dIsN, dNotN, dIsB, dNotB, isNon, isBl, sz_lt, sz_le, sRaise, sTry, collapse_const, endX, dXf, dXis, dBM, dBM0, tTr, fTr, aStar, sRetN, fAbs, sFor, iAny, iRng1, iEn, *])
namespace K03
noncomputable def nT : SDen := (sSeq (sSet 4 (dCall (arity 2 F_law_pick) [] (aCons (dVar 0) (aCons (dLst false (aCons (dC (.int 1)) (aCons (dC (.int 2)) (aCons (dC (.int 3)) (aCons (dC (.int 7)) (aCons (dC (.int 60)) (aCons (bin fPow (dC (.int 10)) (dC (.int 6))) (aCons (bin fPow (dC (.int 10)) (dC (.int 10))) (aNil))))))))) (aNil))))) (sSeq (sSet 5 (dCB fMax2 (aCons (dC (.int 0)) (aCons (bin fSub (bin fPlus (bin fMul (dVar 2) (dVar 4)) (dCall (arity 2 F_law_draw) [] (aCons (dVar 0) (aCons (dC (.int 3)) (aNil))))) (dC (.int 1))) (aNil))))) (sSeq (sIf (tB' (bin (fEq false) (dCall (arity 2 F_law_draw) [] (aCons (dVar 0) (aCons (dC (.int 4)) (aNil)))) (dC (.int 0)))) (sSet 5 (bin fPlus (bin fMul (dVar 2) (dVar 4)) (dCall (arity 2 F_law_draw) [] (aCons (dVar 0) (aCons (dVar 4) (aNil)))))) (sNil)) (sRet (dCall (arity 2 F_law_lowest) [] (aCons (dVar 5) (aCons (dVar 4) (aNil))))))))
theorem near_def : F_law_nearby = fnF 6 (sSeq (sSet 2 (dCall (arity 2 F_law_draw) [] (aCons (dVar 0) (aCons (dC (.int 100)) (aNil))))) (sSeq (sIf (tAnd' (tB' (bin (fEq true) (dVar 1) (dLst false (aNil)))) (tB' (bin fGt (dCall (arity 2 F_law_draw) [] (aCons (dVar 0) (aCons (dC (.int 4)) (aNil)))) (dC (.int 0))))) (sSeq (sSet 3 (dCall (arity 2 F_law_pick) [] (aCons (dVar 0) (aCons (dVar 1) (aNil))))) (sSeq (sSet 2 (bin fIx (bin fIx (dVar 3) (dC (.int 0))) (dC (.int 0)))) (sIf (tAnd' (tB' (dNotN (bin fIx (dVar 3) (dC (.int 1))))) (tB' (bin (fEq false) (dCall (arity 2 F_law_draw) [] (aCons (dVar 0) (aCons (dC (.int 2)) (aNil)))) (dC (.int 1))))) (sSet 2 (bin fIx (bin fIx (dVar 3) (dC (.int 1))) (dC (.int 0)))) (sNil)))) (sNil)) nT)) := rfl
theorem mem_cases {a b c d e f g i : Int} {x : D} (h : x ∈ [D.int a, .int b, .int c, .int d, .int e, .int f, .int g]) : ∃ i, x = .int i ∧ (i = a ∨ i = b ∨ i = c ∨ i = d ∨ i = e ∨ i = f ∨ i = g) := by
  simp only [List.mem_cons, List.not_mem_nil, or_false] at h
  rcases h with rfl | rfl | rfl | rfl | rfl | rfl | rfl <;> exact ⟨_, rfl, by simp⟩
theorem tail_eq {L : Int} {S rest : Sto} {ds : D} {x3 : Option D} (hS : IsBox S rest) (L0 : 0 ≤ L) (L9 : L ≤ 99) : ∃ p q S' E', nT [some (.ref 1), some ds, some (.int L), x3, none, none] S = F.rt (mo p q) S' ∧ IsBox S' rest ∧ IsM 40 p q ∧ E' = () := by
  have h6 := c6
  have h10 := c10
  obtain ⟨x, S1, e1, k1, hx⟩ := pick_gen (ds := [.int 1, .int 2, .int 3, .int 7, .int 60, .int 1000000, .int 10000000000]) hS (by simp) (by simp)
  obtain ⟨b, rfl, hb⟩ := mem_cases (i := 0) hx
  have b2 : 1 ≤ b ∧ b ≤ 10000000000 := by omega
  clear hb hx
  have m1 : MulOk L b := .inl (.inl (by omega))
  have u0 : 0 ≤ L * b := Int.mul_nonneg L0 (by omega)
  have u1 : L * b ≤ 99 * 10000000000 := Int.mul_le_mul L9 b2.2 (by omega) (by decide)
  obtain ⟨d, S2, e2, k2, d0, d1⟩ := draw_eq (n := 3) k1 (by decide) (by decide)
  obtain ⟨c, S3, e3, k3, c0, c1⟩ := draw_eq (n := 4) k2 (by decide) (by decide)
  have fin : ∀ (t : Int) (S4 : Sto), IsBox S4 rest → 0 ≤ t → t ≤ 1000000000000 → (∀ p q, F_law_lowest [.int t, .int b] S4 = .ok (mo p q) S4 → nT [some (.ref 1), some ds, some (.int L), x3, none, none] S = F.rt (mo p q) S4) → ∃ p q S' E', nT [some (.ref 1), some ds, some (.int L), x3, none, none] S = F.rt (mo p q) S' ∧ IsBox S' rest ∧ IsM 40 p q ∧ E' = () := by
    intro t S4 k4 t0 t1 hr
    have l1 := law_lowest_eq (a := t) (b := b) (S := S4) t0 (by omega) ((sm40 (by omega) (by omega)).mono (by decide))
    exact ⟨_, _, S4, (), hr _ _ l1, k4, isM_low t0 (by omega) (sm40 t0 (by omega)) (sm40 (by omega) (by omega)), rfl⟩
  by_cases h0 : c = 0
  · obtain ⟨f, S4, e4, k4, f0, f1⟩ := draw_eq (n := b) k3 (by omega) (by omega)
    refine fin (L * b + f) S4 k4 (by omega) (by omega) fun p q hr => ?_
    clear fin u0 u1
    unfold nT
    walk_at "z"
  · refine fin (if 1 < L * b + d then L * b + d - 1 else 0) S3 k3 (by split <;> omega) (by split <;> omega) fun p q hr => ?_
    clear fin u0 u1
    unfold nT
    walk_at "z"
theorem nearby_eq {ds : List D} {S rest : Sto} (hS : IsBox S rest) (hp : 0 < ds.length) (hl : ds.length ≤ 1000) (hn : ∀ S, eqN true (.lst ds) (.lst []) S = .ok (.bl true) S) (hd : ∀ x ∈ ds, ∃ l r h, x = sp l r h ∧ IsSp 99 l r h) :
    ∃ p q S', F_law_nearby [.ref 1, .lst ds] S = .ok (mo p q) S' ∧ IsBox S' rest ∧ IsM 40 p q := by
  obtain ⟨L, S1, e1, k1, L0, L9⟩ := draw_eq (n := 100) hS (by decide) (by decide)
  obtain ⟨c, S2, e2, k2, c0, c1⟩ := draw_eq (n := 4) k1 (by decide) (by decide)
  by_cases hc : 0 < c
  · obtain ⟨x, S3, e3, k3, hx⟩ := pick_gen k2 hp hl
    obtain ⟨l, r, h, rfl, H⟩ := hd x hx
    cases h with
    | none =>
      obtain ⟨p, q, S4, _, e4, k4, M, _⟩ := tail_eq (ds := .lst ds) (x3 := some (sp l r none)) k3 H.l0 H.ln
      refine ⟨p, q, S4, ?_, k4, M⟩
      rw [near_def]
      clear hd H hx
      unfold sp hiD at *
      walk_at "z"
    | some m =>
      obtain ⟨f, S4, e4, k4, f0, f1⟩ := draw_eq (n := 2) k3 (by decide) (by decide)
      by_cases hf : f = 1
      · obtain ⟨p, q, S5, _, e5, k5, M, _⟩ := tail_eq (ds := .lst ds) (x3 := some (sp l r (some m))) k4 H.hb.1 H.hb.2.1
        refine ⟨p, q, S5, ?_, k5, M⟩
        rw [near_def]
        clear hd H hx
        unfold sp hiD at *
        walk_at "z"
      · obtain ⟨p, q, S5, _, e5, k5, M, _⟩ := tail_eq (ds := .lst ds) (x3 := some (sp l r (some m))) k4 H.l0 H.ln
        refine ⟨p, q, S5, ?_, k5, M⟩
        rw [near_def]
        clear hd H hx
        unfold sp hiD at *
        walk_at "z"
  · obtain ⟨p, q, S4, _, e4, k4, M, _⟩ := tail_eq (ds := .lst ds) (x3 := none) k2 L0 (by omega)
    refine ⟨p, q, S4, ?_, k4, M⟩
    rw [near_def]
    clear hd
    walk_at "z"

abbrev spT (t : Int × Int × Option (Int × Int)) : D := sp t.1 t.2.1 t.2.2
def hiY : Option (Int × Int) → PySem.PyData
  | none => .none
  | some m => .tuple [.int m.1, .int m.2]
theorem hiY_n : hiY none = .none := rfl
theorem hiY_s (m : Int × Int) : hiY (some m) = .tuple [.int m.1, .int m.2] := rfl
theorem pyA_sp : ∀ ts : List (Int × Int × Option (Int × Int)), pyA (ts.map spT) = some (ts.map fun t => PySem.PyData.tuple [.tuple [.int t.1, .int t.2.1], hiY t.2.2])
  | [] => by rw [List.map_nil, pyA]; rfl
  | (l, r, h) :: ts => by
    have e : pyD (spT (l, r, h)) = some (PySem.PyData.tuple [.tuple [.int l, .int r], hiY h]) := by
      cases h <;> simp [spT, sp, hiD, hiY, pyD, pyA]
    rw [List.map_cons, pyA, e, pyA_sp ts]; rfl
theorem shaped_sp (ts : List (Int × Int × Option (Int × Int))) : PySem.SeqAt.shaped (.list (ts.map fun t => PySem.PyData.tuple [.tuple [.int t.1, .int t.2.1], hiY t.2.2])) = true := by
  have h1 : ∀ ts : List (Int × Int × Option (Int × Int)), PySem.PyData.canLayAll0 (ts.map fun t => PySem.PyData.tuple [.tuple [.int t.1, .int t.2.1], hiY t.2.2]) = true := fun gs => by
    induction gs with
    | nil => simp [PySem.PyData.canLayAll0]
    | cons i gs ih =>
      obtain ⟨l, r, h⟩ := i
      cases h <;> simp [hiY_n, hiY_s, PySem.PyData.canLayAll0, PySem.PyData.canLay0, ih]
  have h2 : ∀ ts : List (Int × Int × Option (Int × Int)), PySem.PyData.depthAll (ts.map fun t => PySem.PyData.tuple [.tuple [.int t.1, .int t.2.1], hiY t.2.2]) ≤ 6 := fun gs => by
    induction gs with
    | nil => simp [PySem.PyData.depthAll]
    | cons i gs ih =>
      obtain ⟨l, r, h⟩ := i
      cases h <;> simp [hiY_n, hiY_s, PySem.PyData.depthAll, PySem.PyData.depth] <;> omega
  have h3 := h2 ts
  unfold PySem.SeqAt.shaped
  simp [PySem.PyData.canLay0, PySem.PyData.depth, h1]
  omega
theorem sp_nil (ts : List (Int × Int × Option (Int × Int))) (S : Sto) : eqN true (.lst (ts.map spT)) (.lst []) S = .ok (.bl (!ts.isEmpty)) S := by
  have e1 : pyS S (.lst (ts.map spT)) = some (.list (ts.map fun t => PySem.PyData.tuple [.tuple [.int t.1, .int t.2.1], hiY t.2.2])) := by
    simp only [pyS]; rw [pyD, pyA_sp]; rfl
  have e2 : pyS S (.lst []) = some (.list []) := by simp only [pyS]; rw [pyD, pyA]; rfl
  have s1 := shaped_sp ts
  have s2 : PySem.SeqAt.shaped (.list []) = true := shaped_ints []
  unfold eqN
  rw [e1, e2]
  simp only [s1, s2, and_self, if_true]
  cases ts <;> simp [PySem.PyData.eqv, PySem.PyData.eqvAll]
theorem same_sp (l r : Int) (h : Option (Int × Int)) (S : Sto) : F_law_same 6 [sp l r h, sp l r h] S = .ok (.bl true) S := same_eq 5 (sp l r h) S (by cases h <;> rfl)

end K03
end

section
set_option Elab.async false
set_option linter.all false
set_option maxRecDepth 100000
set_option maxHeartbeats 1000000
open Z
local macro_rules | `(tactic| walk_at "z") => `(tactic| simp [fnF_eq, sSeq, sSet, sRet, sIf, sDrop, sNil, sAsg, sPar, sPut, F.then_nx, F.then_rt, F.then_bk, F.then_ct, F.then_ex, F.then_bad, F.then_ite, R.lift_ok, R.lift_ex, R.lift_bad, R.lift_ite, R.bind_ok, R.bind_ex, R.bind_bad, R.bind_ite, F.fin_nx, F.fin_rt, F.fin_ex, F.fin_bad, F.fin_ite, dVar, dC, bin, un, dAnd, dOr, dNot, tB', tAnd', tOr', tNot', dIf, asB_bl, aNil, aCons, dTup, mkT, dLst, mkL, fIx, seqOf, lstOf, L2.atI, L2.ixN, fAdd, fPlus, dSl, oSome, oNone, asI, fSl, fInT, fStr, fIntT, fFmt, dFmt, dJs, fPart, fStarts, fFind, fIsdig, fIsasc, fMulS, fSub, fMul, fLt, fGt, fLe, fGe, fEq, fDiv, fMod, fNeg, fPow, arity, dCall, dCallY, dCallK, dCallX, dSoSetL, noEx, dCB, fGcd, fLen, fMax2, fMin2, fInt, gN, gT, gAll, dIsi, fIsi, isTy, refOk, dIsN, dNotN, dIsB, dNotB, isNon, isBl, sz_lt, sz_le, sRaise, sTry, collapse_const, endX, dXf, dXis, dBM, dBM0, fPop, fApp, fRevM, fIns, fPopAt, tTr, fTr, aStar, dSoSet, sRetN, fTuple, fAbs, tyD, *])
local macro_rules | `(tactic| walk_at "y") => `(tactic| simp [fnF_eq, sSeq, sSet, sRet, sIf, sDrop, sNil, sAsg, sPar, sPut, F.then_nx, F.then_rt, F.then_bk, F.then_ct, F.then_ex, F.then_bad, F.then_ite, R.lift_ok, R.lift_ex, R.lift_bad, R.lift_ite, R.bind_ok, R.bind_ex, R.bind_bad, R.bind_ite, F.fin_nx, F.fin_rt, F.fin_ex, F.fin_bad, F.fin_ite, dVar, dC, bin, un, dAnd, dOr, dNot, tB', tAnd', tOr', tNot', dIf, asB_bl, aNil, aCons, dTup, mkT, dLst, mkL, fIx, seqOf, lstOf, L2.atI, L2.ixN, fAdd, fPlus, dSl, oSome, oNone, asI, fSl, fInT, fStr, fIntT, fFmt, dFmt, dJs, fPart, fStarts, fFind, fIsdig, fIsasc, fMulS, fSub, fMul, fLt, fGt, fLe, fGe, fEq, fDiv, fMod, fNeg, fPow, arity, dCall, dCallY, dCallK, dCallX, dSoSetL, noEx, dCB, fGcd, fLen, fMax2, fMin2, fInt, sFor, iRng1, fRng1, iSeq, asSeq, iAny, asAny, dIsi, fIsi, isTy, refOk, dIsN, dNotN, dIsB, dNotB, isNon, isBl, sz_lt, sz_le, sRaise, sTry, collapse_const, endX, dXf, dXis, dBM, dBM0, fPop, fApp, fRevM, fIns, fPopAt, tTr, fTr, aStar, dSoSet, sRetN, fTuple, fAbs, tyD, *])
local macro_rules | `(tactic| walk_at "v") => `(tactic| simp [fnF_eq, sSeq, sSet, sRet, sIf, sDrop, sNil, sAsg, sPar, sPut, F.then_nx, F.then_rt, F.then_bk, F.then_ct, F.then_ex, F.then_bad, F.then_ite, R.lift_ok, R.lift_ex, R.lift_bad, R.lift_ite, R.bind_ok, R.bind_ex, R.bind_bad, R.bind_ite, F.fin_nx, F.fin_rt, F.fin_ex, F.fin_bad, F.fin_ite, dVar, dC, bin, un, dAnd, dOr, dNot, tB', tAnd', tOr', tNot', dIf, asB_bl, aNil, aCons, dTup, mkT, dLst, mkL, seqOf, lstOf, fAdd, fPlus, dSl, oSome, oNone, asI, fInT, fStr, fIntT, fFmt, dFmt, dJs, fPart, fStarts, fFind, fIsdig, fIsasc, fMulS, fSub, fLt, fGt, fLe, fGe, fEq, fMod, fNeg, fPow, arity, dCall, dCallY, dCallK, dCallX, dSoSetL, noEx, dCB, fGcd, fMax2, fMin2, fInt, gN, gT, gAll, dIsi, fIsi, isTy, refOk, dIsN, dNotN, dIsB, dNotB, isNon, isBl, sz_lt, sz_le, sRaise, sTry, collapse_const, endX, dXf, dXis, dBM, dBM0, tTr, fTr, aStar, sRetN, fAbs, *])
local macro_rules | `(tactic| walk_at "u") => `(tactic| simp [fnF_eq, sSeq, sSet, sRet, sIf, sDrop, sNil, sAsg, sPar, sPut, F.then_nx, F.then_rt, F.then_bk, F.then_ct, F.then_ex, F.then_bad, F.then_ite, R.lift_ok, R.lift_ex, R.lift_bad, R.lift_ite, R.bind_ok, R.bind_ex, R.bind_bad, R.bind_ite, F.fin_nx, F.fin_rt, F.fin_ex, F.fin_bad, F.fin_ite, dVar, dC, bin, un, dAnd, dOr, dNot, tB', tAnd', tOr', tNot', dIf, asB_bl, aNil, aCons, dTup, mkT, dLst, mkL, seqOf, lstOf, fAdd, fPlus, dSl, oSome, oNone, asI, fInT, fStr, fIntT, fFmt, dFmt, dJs, fPart, fStarts, fFind, fIsdig, fIsasc, fMulS, fSub, fLt, fGt, fLe, fGe, fEq, fMod, fNeg, fPow, arity, dCall, dCallY, dCallK, dCallX, dSoSetL, noEx, dCB, fGcd, fMax2, fMin2, fInt, dIsi, fIsi, isTy, refOk, dIsN, dNotN, dIsB, dNotB, isNon, isBl, sz_lt, sz_le, sRaise, sTry, collapse_const, endX, dXf, dXis, dBM, dBM0, tTr, fTr, aStar, sRetN, fAbs, sFor, iAny, iRng1, iEn, *])
local macro_rules | `(tactic| walk_at "t") => `(tactic| simp [fnF_eq, sSeq, sSet, sRet, sIf, sDrop, sNil, sAsg, sPar, sPut, F.then_nx, F.then_rt, F.then_bk, F.then_ct, F.then_ex, F.then_bad, F.then_ite, R.lift_ok, R.lift_ex, R.lift_bad, R.lift_ite, R.bind_ok, R.bind_ex, R.bind_bad, R.bind_ite, F.fin_nx, F.fin_rt, F.fin_ex, F.fin_bad, F.fin_ite, dVar, dC, bin, un, dAnd, dOr, dNot, tB', tAnd', tOr', tNot', dIf, asB_bl, aNil, aCons, dTup, mkT, dLst, mkL, seqOf, lstOf, fAdd, dSl, oSome, oNone, asI, fInT, fStr, fIntT, fFmt, dFmt, dJs, fPart, fStarts, fFind, fIsdig, fIsasc, fMulS, fSub, fLt, fGt, fLe, fGe, fEq, fMod, fNeg, fPow, arity, dCall, dCallY, dCallK, dCallX, dSoSetL, noEx, dCB, fGcd, fMax2, fMin2, fInt, dIsi, fIsi, isTy, refOk, dIsN, dNotN, dIsB, dNotB, isNon, isBl, sz_lt, sz_le, sRaise, sTry, collapse_const, endX, dXf, dXis, dBM, dBM0, tTr, fTr, aStar, sRetN, fAbs, sFor, iAny, iRng1, iEn, *])
namespace K03
def hmB (l r : Int) : Option (Int × Int) → Bool
  | none => true
  | some m => decide (l < m.1 ∨ l = m.1 ∧ m.2 = 1 ∧ r = 1)
def r01 : Option (Int × Int) → Prop
  | none => True
  | some m => m.2 = 0 ∨ m.2 = 1
def okB (l r : Int) (h : Option (Int × Int)) : Bool := decide (0 ≤ l) && hmB l r h
theorem whole_i (i : Int) (S : Sto) : Fis_whole [.int i] S = .ok (.bl true) S := by
  unfold Fis_whole
  walk_at "z"
theorem two_eq (a b : D) (S : Sto) : Fis_tuple_of [.int 2, .tup [a, b]] S = .ok (.bl true) S := by
  unfold Fis_tuple_of
  walk_at "z"
theorem in01 {r : Int} (h : r = 0 ∨ r = 1) (S : Sto) : fInT false (.int r) (.tup [.int 0, .int 1]) S = .ok (.bl true) S := by
  rcases h with rfl | rfl <;> rfl
theorem edge_eq {l r : Int} (h : r = 0 ∨ r = 1) (S : Sto) : Fis_edge [.tup [.int l, .int r]] S = .ok (.bl true) S := by
  have e1 := two_eq (.int l) (.int r) S
  have e2 := whole_i l S
  have e3 := whole_i r S
  have e4 := in01 h S
  clear h
  unfold Fis_edge
  generalize fInT = ff at *
  simp [fnF_eq, sSeq, sIf, sAsg, sRet, sNil, gT, gN, gAll, tNot', tB', dAnd, dCall, arity, aCons, aNil, dVar, dC, bin, dTup, mkT, asB_bl, R.bind_ok, R.lift_ok, F.then_nx, F.then_rt, F.fin_rt, seqOf, sz_le, e1, e2, e3, e4]
theorem hasm_eq {l r : Int} {h : Option (Int × Int)} (S : Sto) : Fhas_moment [.tup [.int l, .int r], hiD h] S = .ok (.bl (hmB l r h)) S := by
  cases h with
  | none =>
    unfold Fhas_moment hiD
    walk_at "z"
    rfl
  | some m =>
    unfold hmB
    by_cases h1 : l < m.1
    · unfold Fhas_moment hiD
      walk_at "z"
    · by_cases h2 : m.1 = l
      · have h3 : (m.1 = l) = True := eq_true h2
        have h4 : (l = m.1) = True := eq_true h2.symm
        clear h2
        by_cases h5 : m.2 = 1
        · have h6 : (m.2 = 1) = True := eq_true h5
          clear h5
          by_cases h7 : r = 1
          · have h8 : (r = 1) = True := eq_true h7
            clear h7
            unfold Fhas_moment hiD
            walk_at "z"
          · unfold Fhas_moment hiD
            walk_at "z"
        · unfold Fhas_moment hiD
          walk_at "z"
      · have h4 : (l = m.1) = False := eq_false fun z => h2 z.symm
        unfold Fhas_moment hiD
        walk_at "z"
theorem isspan_eq {l r : Int} {h : Option (Int × Int)} (hr : r = 0 ∨ r = 1) (hs : r01 h) (S : Sto) : Fis_span [sp l r h] S = .ok (.bl (okB l r h)) S := by
  have e1 := two_eq (.tup [.int l, .int r]) (hiD h) S
  have e2 := edge_eq (l := l) hr S
  have e3 := hasm_eq (l := l) (r := r) (h := h) S
  unfold okB sp
  cases h with
  | none =>
    clear hs hr
    unfold hiD at *
    by_cases h0 : 0 ≤ l
    · unfold Fis_span
      walk_at "z"
      rfl
    · unfold Fis_span
      walk_at "z"
  | some m =>
    have e4 := edge_eq (l := m.1) (r := m.2) hs S
    clear hs hr
    generalize hmB l r (some m) = hb at *
    unfold hiD at *
    by_cases h0 : 0 ≤ l
    · unfold Fis_span
      walk_at "z"
    · unfold Fis_span
      walk_at "z"
theorem span_eq1 {l r s : Int} (hr : r = 0 ∨ r = 1) (S : Sto) : Fspan [.int l, .non, .int r, .int s] S = if okB l r none = true then .ok (sp l r none) S else .ex "InvalidSpan" [("value", sp l r none)] S := by
  have e1 := isspan_eq (l := l) (h := none) hr trivial S
  clear hr
  generalize okB l r none = b at *
  unfold sp hiD at *
  unfold Fspan
  cases b <;> walk_at "z"
theorem span_eq2 {l r h s : Int} (hr : r = 0 ∨ r = 1) (hs : s = 0 ∨ s = 1) (S : Sto) : Fspan [.int l, .int h, .int r, .int s] S = if okB l r (some (h, s)) = true then .ok (sp l r (some (h, s))) S else .ex "InvalidSpan" [("value", sp l r (some (h, s)))] S := by
  have e1 := isspan_eq (l := l) (h := some (h, s)) hr hs S
  clear hr hs
  generalize okB l r (some (h, s)) = b at *
  unfold sp hiD at *
  unfold Fspan
  cases b <;> walk_at "z"
end K03
end

section
set_option Elab.async false
set_option linter.all false
set_option maxRecDepth 100000
set_option maxHeartbeats 1000000
open Z
local macro_rules | `(tactic| walk_at "z") => `(tactic| simp [fnF_eq, sSeq, sSet, sRet, sIf, sDrop, sNil, sAsg, sPar, sPut, F.then_nx, F.then_rt, F.then_bk, F.then_ct, F.then_ex, F.then_bad, F.then_ite, R.lift_ok, R.lift_ex, R.lift_bad, R.lift_ite, R.bind_ok, R.bind_ex, R.bind_bad, R.bind_ite, F.fin_nx, F.fin_rt, F.fin_ex, F.fin_bad, F.fin_ite, dVar, dC, bin, un, dAnd, dOr, dNot, tB', tAnd', tOr', tNot', dIf, asB_bl, aNil, aCons, dTup, mkT, dLst, mkL, fIx, seqOf, lstOf, L2.atI, L2.ixN, fAdd, fPlus, dSl, oSome, oNone, asI, fSl, fInT, fStr, fIntT, fFmt, dFmt, dJs, fPart, fStarts, fFind, fIsdig, fIsasc, fMulS, fSub, fMul, fLt, fGt, fLe, fGe, fEq, fDiv, fMod, fNeg, fPow, arity, dCall, dCallY, dCallK, dCallX, dSoSetL, noEx, dCB, fGcd, fLen, fMax2, fMin2, fInt, gN, gT, gAll, dIsi, fIsi, isTy, refOk, dIsN, dNotN, dIsB, dNotB, isNon, isBl, sz_lt, sz_le, sRaise, sTry, collapse_const, endX, dXf, dXis, dBM, dBM0, fPop, fApp, fRevM, fIns, fPopAt, tTr, fTr, aStar, dSoSet, sRetN, fTuple, fAbs, tyD, *])
local macro_rules | `(tactic| walk_at "y") => `(tactic| simp [fnF_eq, sSeq, sSet, sRet, sIf, sDrop, sNil, sAsg, sPar, sPut, F.then_nx, F.then_rt, F.then_bk, F.then_ct, F.then_ex, F.then_bad, F.then_ite, R.lift_ok, R.lift_ex, R.lift_bad, R.lift_ite, R.bind_ok, R.bind_ex, R.bind_bad, R.bind_ite, F.fin_nx, F.fin_rt, F.fin_ex, F.fin_bad, F.fin_ite, dVar, dC, bin, un, dAnd, dOr, dNot, tB', tAnd', tOr', tNot', dIf, asB_bl, aNil, aCons, dTup, mkT, dLst, mkL, fIx, seqOf, lstOf, L2.atI, L2.ixN, fAdd, fPlus, dSl, oSome, oNone, asI, fSl, fInT, fStr, fIntT, fFmt, dFmt, dJs, fPart, fStarts, fFind, fIsdig, fIsasc, fMulS, fSub, fMul, fLt, fGt, fLe, fGe, fEq, fDiv, fMod, fNeg, fPow, arity, dCall, dCallY, dCallK, dCallX, dSoSetL, noEx, dCB, fGcd, fLen, fMax2, fMin2, fInt, sFor, iRng1, fRng1, iSeq, asSeq, iAny, asAny, dIsi, fIsi, isTy, refOk, dIsN, dNotN, dIsB, dNotB, isNon, isBl, sz_lt, sz_le, sRaise, sTry, collapse_const, endX, dXf, dXis, dBM, dBM0, fPop, fApp, fRevM, fIns, fPopAt, tTr, fTr, aStar, dSoSet, sRetN, fTuple, fAbs, tyD, *])
local macro_rules | `(tactic| walk_at "v") => `(tactic| simp [fnF_eq, sSeq, sSet, sRet, sIf, sDrop, sNil, sAsg, sPar, sPut, F.then_nx, F.then_rt, F.then_bk, F.then_ct, F.then_ex, F.then_bad, F.then_ite, R.lift_ok, R.lift_ex, R.lift_bad, R.lift_ite, R.bind_ok, R.bind_ex, R.bind_bad, R.bind_ite, F.fin_nx, F.fin_rt, F.fin_ex, F.fin_bad, F.fin_ite, dVar, dC, bin, un, dAnd, dOr, dNot, tB', tAnd', tOr', tNot', dIf, asB_bl, aNil, aCons, dTup, mkT, dLst, mkL, seqOf, lstOf, fAdd, fPlus, dSl, oSome, oNone, asI, fInT, fStr, fIntT, fFmt, dFmt, dJs, fPart, fStarts, fFind, fIsdig, fIsasc, fMulS, fSub, fLt, fGt, fLe, fGe, fEq, fMod, fNeg, fPow, arity, dCall, dCallY, dCallK, dCallX, dSoSetL, noEx, dCB, fGcd, fMax2, fMin2, fInt, gN, gT, gAll, dIsi, fIsi, isTy, refOk, dIsN, dNotN, dIsB, dNotB, isNon, isBl, sz_lt, sz_le, sRaise, sTry, collapse_const, endX, dXf, dXis, dBM, dBM0, tTr, fTr, aStar, sRetN, fAbs, *])
local macro_rules | `(tactic| walk_at "u") => `(tactic| simp [fnF_eq, sSeq, sSet, sRet, sIf, sDrop, sNil, sAsg, sPar, sPut, F.then_nx, F.then_rt, F.then_bk, F.then_ct, F.then_ex, F.then_bad, F.then_ite, R.lift_ok, R.lift_ex, R.lift_bad, R.lift_ite, R.bind_ok, R.bind_ex, R.bind_bad, R.bind_ite, F.fin_nx, F.fin_rt, F.fin_ex, F.fin_bad, F.fin_ite, dVar, dC, bin, un, dAnd, dOr, dNot, tB', tAnd', tOr', tNot', dIf, asB_bl, aNil, aCons, dTup, mkT, dLst, mkL, seqOf, lstOf, fAdd, fPlus, dSl, oSome, oNone, asI, fInT, fStr, fIntT, fFmt, dFmt, dJs, fPart, fStarts, fFind, fIsdig, fIsasc, fMulS, fSub, fLt, fGt, fLe, fGe, fEq, fMod, fNeg, fPow, arity, dCall, dCallY, dCallK, dCallX, dSoSetL, noEx, dCB, fGcd, fMax2, fMin2, fInt, dIsi, fIsi, isTy, refOk, dIsN, dNotN, dIsB, dNotB, isNon, isBl, sz_lt, sz_le, sRaise, sTry, collapse_const, endX, dXf, dXis, dBM, dBM0, tTr, fTr, aStar, sRetN, fAbs, sFor, iAny, iRng1, iEn, *])
local macro_rules | `(tactic| walk_at "t") => `(tactic| simp [fnF_eq, sSeq, sSet, sRet, sIf, sDrop, sNil, sAsg, sPar, sPut, F.then_nx, F.then_rt, F.then_bk, F.then_ct, F.then_ex, F.then_bad, F.then_ite, R.lift_ok, R.lift_ex, R.lift_bad, R.lift_ite, R.bind_ok, R.bind_ex, R.bind_bad, R.bind_ite, F.fin_nx, F.fin_rt, F.fin_ex, F.fin_bad, F.fin_ite, dVar, dC, bin, un, dAnd, dOr, dNot, tB', tAnd', tOr', tNot', dIf, asB_bl, aNil, aCons, dTup, mkT, dLst, mkL, seqOf, lstOf, fAdd, dSl, oSome, oNone, asI, fInT, fStr, fIntT, fFmt, dFmt, dJs, fPart, fStarts, fFind, fIsdig, fIsasc, fMulS, fSub, fLt, fGt, fLe, fGe, fEq, fMod, fNeg, fPow, arity, dCall, dCallY, dCallK, dCallX, dSoSetL, noEx, dCB, fGcd, fMax2, fMin2, fInt, dIsi, fIsi, isTy, refOk, dIsN, dNotN, dIsB, dNotB, isNon, isBl, sz_lt, sz_le, sRaise, sTry, collapse_const, endX, dXf, dXis, dBM, dBM0, tTr, fTr, aStar, sRetN, fAbs, sFor, iAny, iRng1, iEn, *])
namespace K03
/-- what _law_built tells -/
def tellB (l r : Int) (h : Option (Int × Int)) : D := if okB l r h = true then .tup [.bl true, sp l r h] else .tup [.bl false, .tup [sp l r h, .bl true]]
theorem built1 {l r : Int} {S rest : Sto} (hS : IsBox S rest) (hr : r = 0 ∨ r = 1) : ∃ S', F_law_built [.ref 1, sp l r none] S = .ok (tellB l r none) S' ∧ IsBox S' rest := by
  obtain ⟨a, S1, e1, k1, a0, a1⟩ := draw_eq (n := 2) hS (by decide) (by decide)
  obtain ⟨b, S2, e2, k2, b0, b1⟩ := draw_eq (n := 2) k1 (by decide) (by decide)
  refine ⟨S2, ?_, k2⟩
  have s1 := span_eq1 (l := l) (r := 1) (s := 1) (.inr rfl) S2
  have s2 := span_eq1 (l := l) (s := b) hr S2
  unfold tellB
  by_cases h1 : r = 1
  · subst h1
    clear hr
    generalize okB l 1 none = ob at *
    unfold sp hiD at *
    by_cases h2 : a = 0
    · cases ob <;> unfold F_law_built <;> walk_at "z"
    · cases ob <;> unfold F_law_built <;> walk_at "z"
  · clear hr s1
    generalize okB l r none = ob at *
    unfold sp hiD at *
    cases ob <;> unfold F_law_built <;> walk_at "z"
theorem built2 {l r : Int} {m : Int × Int} {S rest : Sto} (hS : IsBox S rest) (hr : r = 0 ∨ r = 1) (hs : m.2 = 0 ∨ m.2 = 1) : ∃ S', F_law_built [.ref 1, sp l r (some m)] S = .ok (tellB l r (some m)) S' ∧ IsBox S' rest := by
  obtain ⟨a, S1, e1, k1, a0, a1⟩ := draw_eq (n := 2) hS (by decide) (by decide)
  obtain ⟨b, S2, e2, k2, b0, b1⟩ := draw_eq (n := 2) k1 (by decide) (by decide)
  refine ⟨S2, ?_, k2⟩
  obtain ⟨h, s⟩ := m
  simp only at hs
  have s1 := span_eq2 (l := l) (h := h) hr hs S2
  unfold tellB
  have q : ∀ x : Int, x = 0 ∨ x = 1 → x = 1 ∨ (x = 1) = False := fun x hx => by
    rcases hx with rfl | rfl
    · right; simp
    · left; rfl
  rcases q r hr with h1 | h1 <;> rcases q s hs with h2 | h2 <;> clear q hr hs
  · subst h1; subst h2
    generalize okB l 1 (some (h, 1)) = ob at *
    unfold sp hiD at *
    by_cases h3 : a = 0 <;> cases ob <;> unfold F_law_built <;> walk_at "z"
  · subst h1
    generalize okB l 1 (some (h, s)) = ob at *
    unfold sp hiD at *
    by_cases h3 : a = 0 <;> cases ob <;> unfold F_law_built <;> walk_at "z"
  · subst h2
    generalize okB l r (some (h, 1)) = ob at *
    unfold sp hiD at *
    by_cases h3 : a = 0 <;> cases ob <;> unfold F_law_built <;> walk_at "z"
  · generalize okB l r (some (h, s)) = ob at *
    unfold sp hiD at *
    by_cases h3 : a = 0 <;> cases ob <;> unfold F_law_built <;> walk_at "z"
theorem built_eq {l r : Int} {h : Option (Int × Int)} {S rest : Sto} (hS : IsBox S rest) (hr : r = 0 ∨ r = 1) (hs : r01 h) : ∃ S', F_law_built [.ref 1, sp l r h] S = .ok (tellB l r h) S' ∧ IsBox S' rest := by
  cases h with
  | none => exact built1 hS hr
  | some m => exact built2 hS hr hs
theorem ok_no {l r : Int} {m : Int × Int} (h : ¬ (l < m.1 ∨ l = m.1 ∧ m.2 = 1 ∧ r = 1)) : okB l r (some m) = false := by
  show (decide (0 ≤ l) && decide (l < m.1 ∨ l = m.1 ∧ m.2 = 1 ∧ r = 1)) = false
  rw [decide_eq_false h, Bool.and_false]
theorem wrong_eq {S rest : Sto} (hS : IsBox S rest) : ∃ l r h S', F_law_wrong [.ref 1] S = .ok (sp l r h) S' ∧ IsBox S' rest ∧ (r = 0 ∨ r = 1) ∧ r01 h ∧ okB l r h = false := by
  obtain ⟨c, S1, e1, k1, c0, c1⟩ := draw_eq (n := 3) hS (by decide) (by decide)
  obtain ⟨l, S2, e2, k2, l0, l9⟩ := limit_eq k1
  obtain ⟨r, S3, e3, k3, r0, r1⟩ := draw_eq (n := 2) k2 (by decide) (by decide)
  obtain ⟨o, S4, e4, k4, o0, o1⟩ := draw_eq (n := 2) k3 (by decide) (by decide)
  by_cases h0 : c = 0
  · obtain ⟨f, S5, e5, k5, f0, f1⟩ := draw_eq (n := 2) k4 (by decide) (by decide)
    have hm : ¬ (0 ≤ 0 - 1 - l % 99) := by omega
    by_cases h1 : f = 1
    · obtain ⟨x, S6, e6, k6, x0, x9⟩ := limit_eq k5
      refine ⟨0 - 1 - l % 99, r, some (x, o), S6, ?_, k6, by omega, by show o = 0 ∨ o = 1; omega, by unfold okB; rw [decide_eq_false hm]; rfl⟩
      clear hm
      unfold sp hiD F_law_wrong
      walk_at "z"
    · refine ⟨0 - 1 - l % 99, r, none, S5, ?_, k5, by omega, trivial, by unfold okB; rw [decide_eq_false hm]; rfl⟩
      clear hm
      unfold sp hiD F_law_wrong
      walk_at "z"
  · by_cases h1 : c = 1
    · have hM : ∃ M : Int, (if 1 < l then l else 1) = M ∧ 1 ≤ M ∧ M ≤ 99 := ⟨_, rfl, by split <;> omega, by split <;> omega⟩
      obtain ⟨M, hM, M1, M9⟩ := hM
      obtain ⟨x, S5, e5, k5, x0, x1⟩ := draw_eq (n := M) k4 (by omega) (by omega)
      refine ⟨M, r, some (x, o), S5, ?_, k5, by omega, by show o = 0 ∨ o = 1; omega, ?_⟩
      · subst hM
        clear M1 M9 x1
        unfold sp hiD F_law_wrong
        walk_at "z"
      · exact ok_no (m := (x, o)) (by show ¬ (M < x ∨ M = x ∧ _); omega)
    · by_cases h2 : r = 1
      · refine ⟨l, r, some (l, 0), S4, ?_, k4, by omega, .inl rfl, ?_⟩
        · unfold sp hiD F_law_wrong
          walk_at "z"
        · exact ok_no (m := (l, 0)) (by simp)
      · refine ⟨l, r, some (l, o), S4, ?_, k4, by omega, by show o = 0 ∨ o = 1; omega, ?_⟩
        · unfold sp hiD F_law_wrong
          walk_at "z"
        · exact ok_no (m := (l, o)) (by simp [h2])
end K03
end

section
set_option Elab.async false
set_option linter.all false
set_option maxRecDepth 100000
set_option maxHeartbeats 1000000
open Z
local macro_rules | `(tactic| walk_at "z") => `(tactic| simp [fnF_eq, sSeq, sSet, sRet, sIf, sDrop, sNil, sAsg, sPar, sPut, F.then_nx, F.then_rt, F.then_bk, F.then_ct, F.then_ex, F.then_bad, F.then_ite, R.lift_ok, R.lift_ex, R.lift_bad, R.lift_ite, R.bind_ok, R.bind_ex, R.bind_bad, R.bind_ite, F.fin_nx, F.fin_rt, F.fin_ex, F.fin_bad, F.fin_ite, dVar, dC, bin, un, dAnd, dOr, dNot, tB', tAnd', tOr', tNot', dIf, asB_bl, aNil, aCons, dTup, mkT, dLst, mkL, fIx, seqOf, lstOf, L2.atI, L2.ixN, fAdd, fPlus, dSl, oSome, oNone, asI, fSl, fInT, fStr, fIntT, fFmt, dFmt, dJs, fPart, fStarts, fFind, fIsdig, fIsasc, fMulS, fSub, fMul, fLt, fGt, fLe, fGe, fEq, fDiv, fMod, fNeg, fPow, arity, dCall, dCallY, dCallK, dCallX, dSoSetL, noEx, dCB, fGcd, fLen, fMax2, fMin2, fInt, gN, gT, gAll, dIsi, fIsi, isTy, refOk, dIsN, dNotN, dIsB, dNotB, isNon, isBl, sz_lt, sz_le, sRaise, sTry, collapse_const, endX, dXf, dXis, dBM, dBM0, fPop, fApp, fRevM, fIns, fPopAt, tTr, fTr, aStar, dSoSet, sRetN, fTuple, fAbs, tyD, *])
local macro_rules | `(tactic| walk_at "y") => `(tactic| simp [fnF_eq, sSeq, sSet, sRet, sIf, sDrop, sNil, sAsg, sPar, sPut, F.then_nx, F.then_rt, F.then_bk, F.then_ct, F.then_ex, F.then_bad, F.then_ite, R.lift_ok, R.lift_ex, R.lift_bad, R.lift_ite, R.bind_ok, R.bind_ex, R.bind_bad, R.bind_ite, F.fin_nx, F.fin_rt, F.fin_ex, F.fin_bad, F.fin_ite, dVar, dC, bin, un, dAnd, dOr, dNot, tB', tAnd', tOr', tNot', dIf, asB_bl, aNil, aCons, dTup, mkT, dLst, mkL, fIx, seqOf, lstOf, L2.atI, L2.ixN, fAdd, fPlus, dSl, oSome, oNone, asI, fSl, fInT, fStr, fIntT, fFmt, dFmt, dJs, fPart, fStarts, fFind, fIsdig, fIsasc, fMulS, fSub, fMul, fLt, fGt, fLe, fGe, fEq, fDiv, fMod, fNeg, fPow, arity, dCall, dCallY, dCallK, dCallX, dSoSetL, noEx, dCB, fGcd, fLen, fMax2, fMin2, fInt, sFor, iRng1, fRng1, iSeq, asSeq, iAny, asAny, dIsi, fIsi, isTy, refOk, dIsN, dNotN, dIsB, dNotB, isNon, isBl, sz_lt, sz_le, sRaise, sTry, collapse_const, endX, dXf, dXis, dBM, dBM0, fPop, fApp, fRevM, fIns, fPopAt, tTr, fTr, aStar, dSoSet, sRetN, fTuple, fAbs, tyD, *])
local macro_rules | `(tactic| walk_at "v") => `(tactic| simp [fnF_eq, sSeq, sSet, sRet, sIf, sDrop, sNil, sAsg, sPar, sPut, F.then_nx, F.then_rt, F.then_bk, F.then_ct, F.then_ex, F.then_bad, F.then_ite, R.lift_ok, R.lift_ex, R.lift_bad, R.lift_ite, R.bind_ok, R.bind_ex, R.bind_bad, R.bind_ite, F.fin_nx, F.fin_rt, F.fin_ex, F.fin_bad, F.fin_ite, dVar, dC, bin, un, dAnd, dOr, dNot, tB', tAnd', tOr', tNot', dIf, asB_bl, aNil, aCons, dTup, mkT, dLst, mkL, seqOf, lstOf, fAdd, fPlus, dSl, oSome, oNone, asI, fInT, fStr, fIntT, fFmt, dFmt, dJs, fPart, fStarts, fFind, fIsdig, fIsasc, fMulS, fSub, fLt, fGt, fLe, fGe, fEq, fMod, fNeg, fPow, arity, dCall, dCallY, dCallK, dCallX, dSoSetL, noEx, dCB, fGcd, fMax2, fMin2, fInt, gN, gT, gAll, dIsi, fIsi, isTy, refOk, dIsN, dNotN, dIsB, dNotB, isNon, isBl, sz_lt, sz_le, sRaise, sTry, collapse_const, endX, dXf, dXis, dBM, dBM0, tTr, fTr, aStar, sRetN, fAbs, *])
local macro_rules | `(tactic| walk_at "u") => `(tactic| simp [fnF_eq, sSeq, sSet, sRet, sIf, sDrop, sNil, sAsg, sPar, sPut, F.then_nx, F.then_rt, F.then_bk, F.then_ct, F.then_ex, F.then_bad, F.then_ite, R.lift_ok, R.lift_ex, R.lift_bad, R.lift_ite, R.bind_ok, R.bind_ex, R.bind_bad, R.bind_ite, F.fin_nx, F.fin_rt, F.fin_ex, F.fin_bad, F.fin_ite, dVar, dC, bin, un, dAnd, dOr, dNot, tB', tAnd', tOr', tNot', dIf, asB_bl, aNil, aCons, dTup, mkT, dLst, mkL, seqOf, lstOf, fAdd, fPlus, dSl, oSome, oNone, asI, fInT, fStr, fIntT, fFmt, dFmt, dJs, fPart, fStarts, fFind, fIsdig, fIsasc, fMulS, fSub, fLt, fGt, fLe, fGe, fEq, fMod, fNeg, fPow, arity, dCall, dCallY, dCallK, dCallX, dSoSetL, noEx, dCB, fGcd, fMax2, fMin2, fInt, dIsi, fIsi, isTy, refOk, dIsN, dNotN, dIsB, dNotB, isNon, isBl, sz_lt, sz_le, sRaise, sTry, collapse_const, endX, dXf, dXis, dBM, dBM0, tTr, fTr, aStar, sRetN, fAbs, sFor, iAny, iRng1, iEn, *])
local macro_rules | `(tactic| walk_at "t") => `(tactic| simp [fnF_eq, sSeq, sSet, sRet, sIf, sDrop, sNil, sAsg, sPar, sPut, F.then_nx, F.then_rt, F.then_bk, F.then_ct, F.then_ex, F.then_bad, F.then_ite, R.lift_ok, R.lift_ex, R.lift_bad, R.lift_ite, R.bind_ok, R.bind_ex, R.bind_bad, R.bind_ite, F.fin_nx, F.fin_rt, F.fin_ex, F.fin_bad, F.fin_ite, dVar, dC, bin, un, dAnd, dOr, dNot, tB', tAnd', tOr', tNot', dIf, asB_bl, aNil, aCons, dTup, mkT, dLst, mkL, seqOf, lstOf, fAdd, dSl, oSome, oNone, asI, fInT, fStr, fIntT, fFmt, dFmt, dJs, fPart, fStarts, fFind, fIsdig, fIsasc, fMulS, fSub, fLt, fGt, fLe, fGe, fEq, fMod, fNeg, fPow, arity, dCall, dCallY, dCallK, dCallX, dSoSetL, noEx, dCB, fGcd, fMax2, fMin2, fInt, dIsi, fIsi, isTy, refOk, dIsN, dNotN, dIsB, dNotB, isNon, isBl, sz_lt, sz_le, sRaise, sTry, collapse_const, endX, dXf, dXis, dBM, dBM0, tTr, fTr, aStar, sRetN, fAbs, sFor, iAny, iRng1, iEn, *])
namespace K03
theorem in_lowest_eq {a b : Int} {S : Sto} (h : 0 < b) (k : sm 9000 b) : Fin_lowest_terms [.int a, .int b] S = .ok (low a b) S := by
  have h1 := g_ok (a := a) h k
  unfold g at h1
  unfold Fin_lowest_terms low g
  walk_at "z"
def stepP (t m : Int × Int) : Int × Int := ((t.1 * m.2 + m.1 * t.2) / g (t.1 * m.2 + m.1 * t.2) (t.2 * m.2), (t.2 * m.2) / g (t.1 * m.2 + m.1 * t.2) (t.2 * m.2))
def sumP (t : Int × Int) (ms : List (Int × Int)) : Int × Int := ms.foldl stepP t
theorem step_top {k : Nat} {t m : Int × Int} (ht : IsM k t.1 t.2) (hm : IsM 40 m.1 m.2) : 0 ≤ t.1 * m.2 + m.1 * t.2 ∧ 0 < t.2 * m.2 ∧ sm (k + 41) (t.1 * m.2 + m.1 * t.2) ∧ sm (k + 41) (t.2 * m.2) := by
  refine ⟨Int.add_nonneg (Int.mul_nonneg ht.p0 (Int.le_of_lt hm.q0)) (Int.mul_nonneg hm.p0 (Int.le_of_lt ht.q0)), Int.mul_pos ht.q0 hm.q0, ?_, (ht.qs.mul hm.qs).mono (by omega)⟩
  exact sm.add (ht.ps.mul hm.qs) ((hm.ps.mul ht.qs).mono (by omega))
theorem isM_step {k : Nat} {t m : Int × Int} (ht : IsM k t.1 t.2) (hm : IsM 40 m.1 m.2) : IsM (k + 41) (stepP t m).1 (stepP t m).2 := by
  obtain ⟨h1, h2, h3, h4⟩ := step_top ht hm
  exact isM_low h1 h2 h3 h4
theorem moD_step (t m : Int × Int) : moD (stepP t m) = low (t.1 * m.2 + m.1 * t.2) (t.2 * m.2) := rfl
noncomputable def aB : SDen := sSet 1 (dCall (arity 2 Fin_lowest_terms) [] (aCons (bin fPlus (bin fMul (bin fIx (dVar 1) (dC (.int 0))) (dVar 3)) (bin fMul (dVar 2) (bin fIx (dVar 1) (dC (.int 1))))) (aCons (bin fMul (bin fIx (dVar 1) (dC (.int 1))) (dVar 3)) (aNil))))
theorem added_go {ds : D} {S : Sto} : ∀ (ms : List (Int × Int)) (k : Nat) (t : Int × Int) (x y : Option D), IsM k t.1 t.2 → (∀ m ∈ ms, IsM 40 m.1 m.2) → k + 41 * ms.length ≤ 800 →
    ∃ x' y', forGo (fun _ => True) (gT [gN 2, gN 3]) aB (ms.map moD) [some ds, some (moD t), x, y] S = .nx [some ds, some (moD (sumP t ms)), x', y'] S
  | [], k, t, x, y, _, _, _ => ⟨x, y, forGo_nil trivial⟩
  | m :: ms, k, t, x, y, ht, hm, hk => by
    have hm0 := hm m List.mem_cons_self
    obtain ⟨h1, h2, h3, h4⟩ := step_top ht hm0
    have l1 := in_lowest_eq (a := t.1 * m.2 + m.1 * t.2) (b := t.2 * m.2) (S := S) h2 (h4.mono (by simp only [List.length_cons] at hk; omega))
    have m1 := ht.ps.ok hm0.qs (by simp only [List.length_cons] at hk; omega)
    have m2 := hm0.ps.ok ht.qs (by simp only [List.length_cons] at hk; omega)
    have m3 := ht.qs.ok hm0.qs (by simp only [List.length_cons] at hk; omega)
    obtain ⟨x', y', ih⟩ := added_go (ds := ds) (S := S) ms (k + 41) (stepP t m) (some (.int m.1)) (some (.int m.2)) (isM_step ht hm0) (fun z hz => hm z (List.mem_cons_of_mem _ hz)) (by simp only [List.length_cons] at hk; omega)
    refine ⟨x', y', ?_⟩
    have eb : aB [some ds, some (moD t), some (.int m.1), some (.int m.2)] S = .nx [some ds, some (moD (stepP t m)), some (.int m.1), some (.int m.2)] S := by
      unfold aB
      simp [sSet, R.lift_ok, R.bind_ok, dCall, aCons, aNil, bin, dVar, dC, fIx, seqOf, L2.atI, L2.ixN, fAdd, fPlus, fMul, arity, m1, m2, m3, l1, moD_step]
    rw [List.map_cons, forGo, if_pos trivial]
    have eg : (gT [gN 2, gN 3]).run (moD m) [some ds, some (moD t), x, y] = some [some ds, some (moD t), some (.int m.1), some (.int m.2)] := rfl
    rw [eg]
    simp only [eb]
    exact ih
theorem added_eq {ms : List (Int × Int)} {S : Sto} (hm : ∀ m ∈ ms, IsM 40 m.1 m.2) (hl : ms.length ≤ 6) : Fadded (ms.map moD) S = .ok (moD (sumP (0, 1) ms)) S := by
  obtain ⟨x', y', h⟩ := added_go (ds := .tup (ms.map moD)) (S := S) ms 1 (0, 1) none none isM_0 hm (by omega)
  have e : Fadded = starF 0 (fnF 4 (sSeq (sSet 1 (dTup (aCons (dC (.int 0)) (aCons (dC (.int 1)) (aNil))))) (sSeq (sFor (iAny (dVar 0)) (gT [gN 2, gN 3]) aB) (sRet (dVar 1))))) := rfl
  have hf : Fit ms.length := of_eq_true (sz_le (by omega))
  have st : still (.tup (ms.map moD)) (ms.map moD) = fun _ => True := rfl
  rw [e]
  simp [starF, hf, fnF_eq, sSeq, sSet, sFor, iAny, asAny, asSeq, dTup, mkT, sz_le, aCons, aNil, dC, R.bind_ok, R.lift_ok, dVar, seqOf, st, F.then_nx, h, sRet, F.fin_rt]

theorem g_1 (a : Int) : g a 1 = 1 := by unfold g; simp
theorem isM_1 {a : Int} (h : 0 ≤ a) (h9 : a ≤ 99) : IsM 40 a 1 := ⟨h, by decide, g_1 a, sm40 h (by omega), by unfold sm; decide⟩
theorem sum_1 (a b : Int) : sumP (0, 1) [(a, 1), (b, 1)] = (a + b, 1) := by
  simp [sumP, stepP, g_1]
theorem halfway_eq {a b : Int} {S : Sto} (ha : 0 ≤ a) (h9 : a ≤ 99) (hb : 0 ≤ b) (b9 : b ≤ 99) : Fhalfway [mo a 1, mo b 1] S = .ok (low (a + b) 2) S := by
  have e1 := added_eq (ms := [(a, 1), (b, 1)]) (S := S) (fun m hm => by
    simp only [List.mem_cons, List.not_mem_nil, or_false] at hm
    rcases hm with rfl | rfl
    · exact isM_1 ha h9
    · exact isM_1 hb b9) (by simp)
  rw [sum_1] at e1
  simp only [List.map_cons, List.map_nil] at e1
  have e2 := in_lowest_eq (a := a + b) (b := 2) (S := S) (by decide) (by unfold sm; decide)
  have m1 : MulOk 2 1 := mulc (by decide) 2
  unfold Fhalfway
  generalize g (a + b) 2 = G at *
  walk_at "z"
theorem moment_eq {l r : Int} {h : Option (Int × Int)} (H : IsSp 99 l r h) (S : Sto) : ∃ m, Fspan_moment [sp l r h] S = .ok m S ∧ F_law_moment_of [sp l r h] S = .ok m S ∧ flatD' 5 m = true := by
  obtain ⟨l0, l9, rb, hb⟩ := H
  by_cases h1 : r = 1
  · subst h1
    refine ⟨mo l 1, ?_, ?_, rfl⟩
    · clear hb rb
      generalize hq : hiD h = q
      unfold sp Fspan_moment
      rw [hq]
      walk_at "z"
    · clear hb rb
      generalize hq : hiD h = q
      unfold sp F_law_moment_of
      rw [hq]
      walk_at "z"
  · clear rb
    cases h with
    | none =>
      refine ⟨mo (l + 1) 1, ?_, ?_, rfl⟩
      · unfold sp hiD Fspan_moment
        walk_at "z"
      · unfold sp hiD F_law_moment_of
        walk_at "z"
    | some m =>
      have e1 := halfway_eq (a := l) (b := m.1) (S := S) l0 l9 hb.1 hb.2.1
      have e2 := law_lowest_eq (a := l + m.1) (b := 2) (S := S) (by have := hb.1; omega) (by decide) (by unfold sm; decide)
      clear hb
      refine ⟨low (l + m.1) 2, ?_, ?_, rfl⟩
      · generalize g (l + m.1) 2 = G at *
        unfold sp hiD Fspan_moment
        walk_at "z"
      · generalize g (l + m.1) 2 = G at *
        unfold sp hiD F_law_moment_of
        walk_at "z"
end K03
end

section
set_option Elab.async false
set_option linter.all false
set_option maxRecDepth 100000
set_option maxHeartbeats 1000000
open Z
local macro_rules | `(tactic| walk_at "z") => `(tactic| simp [fnF_eq, sSeq, sSet, sRet, sIf, sDrop, sNil, sAsg, sPar, sPut, F.then_nx, F.then_rt, F.then_bk, F.then_ct, F.then_ex, F.then_bad, F.then_ite, R.lift_ok, R.lift_ex, R.lift_bad, R.lift_ite, R.bind_ok, R.bind_ex, R.bind_bad, R.bind_ite, F.fin_nx, F.fin_rt, F.fin_ex, F.fin_bad, F.fin_ite, dVar, dC, bin, un, dAnd, dOr, dNot, tB', tAnd', tOr', tNot', dIf, asB_bl, aNil, aCons, dTup, mkT, dLst, mkL, fIx, seqOf, lstOf, L2.atI, L2.ixN, fAdd, fPlus, dSl, oSome, oNone, asI, fSl, fInT, fStr, fIntT, fFmt, dFmt, dJs, fPart, fStarts, fFind, fIsdig, fIsasc, fMulS, fSub, fMul, fLt, fGt, fLe, fGe, fEq, fDiv, fMod, fNeg, fPow, arity, dCall, dCallY, dCallK, dCallX, dSoSetL, noEx, dCB, fGcd, fLen, fMax2, fMin2, fInt, gN, gT, gAll, dIsi, fIsi, isTy, refOk, dIsN, dNotN, dIsB, dNotB, isNon, isBl, sz_lt, sz_le, sRaise, sTry, collapse_const, endX, dXf, dXis, dBM, dBM0, fPop, fApp, fRevM, fIns, fPopAt, tTr, fTr, aStar, dSoSet, sRetN, fTuple, fAbs, tyD, *])
local macro_rules | `(tactic| walk_at "y") => `(tactic| simp [fnF_eq, sSeq, sSet, sRet, sIf, sDrop, sNil, sAsg, sPar, sPut, F.then_nx, F.then_rt, F.then_bk, F.then_ct, F.then_ex, F.then_bad, F.then_ite, R.lift_ok, R.lift_ex, R.lift_bad, R.lift_ite, R.bind_ok, R.bind_ex, R.bind_bad, R.bind_ite, F.fin_nx, F.fin_rt, F.fin_ex, F.fin_bad, F.fin_ite, dVar, dC, bin, un, dAnd, dOr, dNot, tB', tAnd', tOr', tNot', dIf, asB_bl, aNil, aCons, dTup, mkT, dLst, mkL, fIx, seqOf, lstOf, L2.atI, L2.ixN, fAdd, fPlus, dSl, oSome, oNone, asI, fSl, fInT, fStr, fIntT, fFmt, dFmt, dJs, fPart, fStarts, fFind, fIsdig, fIsasc, fMulS, fSub, fMul, fLt, fGt, fLe, fGe, fEq, fDiv, fMod, fNeg, fPow, arity, dCall, dCallY, dCallK, dCallX, dSoSetL, noEx, dCB, fGcd, fLen, fMax2, fMin2, fInt, sFor, iRng1, fRng1, iSeq, asSeq, iAny, asAny, dIsi, fIsi, isTy, refOk, dIsN, dNotN, dIsB, dNotB, isNon, isBl, sz_lt, sz_le, sRaise, sTry, collapse_const, endX, dXf, dXis, dBM, dBM0, fPop, fApp, fRevM, fIns, fPopAt, tTr, fTr, aStar, dSoSet, sRetN, fTuple, fAbs, tyD, *])
local macro_rules | `(tactic| walk_at "v") => `(tactic| simp [fnF_eq, sSeq, sSet, sRet, sIf, sDrop, sNil, sAsg, sPar, sPut, F.then_nx, F.then_rt, F.then_bk, F.then_ct, F.then_ex, F.then_bad, F.then_ite, R.lift_ok, R.lift_ex, R.lift_bad, R.lift_ite, R.bind_ok, R.bind_ex, R.bind_bad, R.bind_ite, F.fin_nx, F.fin_rt, F.fin_ex, F.fin_bad, F.fin_ite, dVar, dC, bin, un, dAnd, dOr, dNot, tB', tAnd', tOr', tNot', dIf, asB_bl, aNil, aCons, dTup, mkT, dLst, mkL, seqOf, lstOf, fAdd, fPlus, dSl, oSome, oNone, asI, fInT, fStr, fIntT, fFmt, dFmt, dJs, fPart, fStarts, fFind, fIsdig, fIsasc, fMulS, fSub, fLt, fGt, fLe, fGe, fEq, fMod, fNeg, fPow, arity, dCall, dCallY, dCallK, dCallX, dSoSetL, noEx, dCB, fGcd, fMax2, fMin2, fInt, gN, gT, gAll, dIsi, fIsi, isTy, refOk, dIsN, dNotN, dIsB, dNotB, isNon, isBl, sz_lt, sz_le, sRaise, sTry, collapse_const, endX, dXf, dXis, dBM, dBM0, tTr, fTr, aStar, sRetN, fAbs, *])
local macro_rules | `(tactic| walk_at "u") => `(tactic| simp [fnF_eq, sSeq, sSet, sRet, sIf, sDrop, sNil, sAsg, sPar, sPut, F.then_nx, F.then_rt, F.then_bk, F.then_ct, F.then_ex, F.then_bad, F.then_ite, R.lift_ok, R.lift_ex, R.lift_bad, R.lift_ite, R.bind_ok, R.bind_ex, R.bind_bad, R.bind_ite, F.fin_nx, F.fin_rt, F.fin_ex, F.fin_bad, F.fin_ite, dVar, dC, bin, un, dAnd, dOr, dNot, tB', tAnd', tOr', tNot', dIf, asB_bl, aNil, aCons, dTup, mkT, dLst, mkL, seqOf, lstOf, fAdd, fPlus, dSl, oSome, oNone, asI, fInT, fStr, fIntT, fFmt, dFmt, dJs, fPart, fStarts, fFind, fIsdig, fIsasc, fMulS, fSub, fLt, fGt, fLe, fGe, fEq, fMod, fNeg, fPow, arity, dCall, dCallY, dCallK, dCallX, dSoSetL, noEx, dCB, fGcd, fMax2, fMin2, fInt, dIsi, fIsi, isTy, refOk, dIsN, dNotN, dIsB, dNotB, isNon, isBl, sz_lt, sz_le, sRaise, sTry, collapse_const, endX, dXf, dXis, dBM, dBM0, tTr, fTr, aStar, sRetN, fAbs, sFor, iAny, iRng1, iEn, *])
local macro_rules | `(tactic| walk_at "t") => `(tactic| simp [fnF_eq, sSeq, sSet, sRet, sIf, sDrop, sNil, sAsg, sPar, sPut, F.then_nx, F.then_rt, F.then_bk, F.then_ct, F.then_ex, F.then_bad, F.then_ite, R.lift_ok, R.lift_ex, R.lift_bad, R.lift_ite, R.bind_ok, R.bind_ex, R.bind_bad, R.bind_ite, F.fin_nx, F.fin_rt, F.fin_ex, F.fin_bad, F.fin_ite, dVar, dC, bin, un, dAnd, dOr, dNot, tB', tAnd', tOr', tNot', dIf, asB_bl, aNil, aCons, dTup, mkT, dLst, mkL, seqOf, lstOf, fAdd, dSl, oSome, oNone, asI, fInT, fStr, fIntT, fFmt, dFmt, dJs, fPart, fStarts, fFind, fIsdig, fIsasc, fMulS, fSub, fLt, fGt, fLe, fGe, fEq, fMod, fNeg, fPow, arity, dCall, dCallY, dCallK, dCallX, dSoSetL, noEx, dCB, fGcd, fMax2, fMin2, fInt, dIsi, fIsi, isTy, refOk, dIsN, dNotN, dIsB, dNotB, isNon, isBl, sz_lt, sz_le, sRaise, sTry, collapse_const, endX, dXf, dXis, dBM, dBM0, tTr, fTr, aStar, sRetN, fAbs, sFor, iAny, iRng1, iEn, *])
namespace K03
/-- limits in half hours -/
abbrev loD (x : Int) : D := .tup [.int (x / 2), .int (1 - x % 2)]
def upD : Option Int → D
  | none => .non
  | some u => .tup [.int ((u + 1) / 2), .int (1 - u % 2)]
theorem upD_n : upD none = .non := rfl
theorem upD_s (u : Int) : upD (some u) = .tup [.int ((u + 1) / 2), .int (1 - u % 2)] := rfl
abbrev spU (x : Int) (u : Option Int) : D := .tup [loD x, upD u]
def Lo (l r : Int) : Int := 2 * l + 1 - r
def Up : Option (Int × Int) → Option Int
  | none => none
  | some m => some (2 * m.1 - 1 + m.2)
theorem sp_U {l r : Int} {h : Option (Int × Int)} (hr : r = 0 ∨ r = 1) (hs : r01 h) : sp l r h = spU (Lo l r) (Up h) := by
  have e1 : Lo l r / 2 = l := by unfold Lo; omega
  have e2 : 1 - Lo l r % 2 = r := by unfold Lo; omega
  show D.tup [.tup [.int l, .int r], hiD h] = D.tup [.tup [.int (Lo l r / 2), .int (1 - Lo l r % 2)], upD (Up h)]
  rw [e1, e2]
  cases h with
  | none => rfl
  | some m =>
    have hs' : m.2 = 0 ∨ m.2 = 1 := hs
    have e3 : (2 * m.1 - 1 + m.2 + 1) / 2 = m.1 := by omega
    have e4 : 1 - (2 * m.1 - 1 + m.2) % 2 = m.2 := by omega
    show D.tup [_, .tup [.int m.1, .int m.2]] = D.tup [_, .tup [.int ((2 * m.1 - 1 + m.2 + 1) / 2), .int (1 - (2 * m.1 - 1 + m.2) % 2)]]
    rw [e3, e4]
abbrev keD (x : Int) : D := .tup [.int (x / 2), .int (-(1 - x % 2))]
abbrev keY (x : Int) : PySem.PyData := .tuple [.int (x / 2), .int (-(1 - x % 2))]
def upY : Option Int → PySem.PyData
  | none => .none
  | some u => .tuple [.int ((u + 1) / 2), .int (1 - u % 2)]
theorem order_eq (x : Int) (S : Sto) : Flow_order [loD x] S = .ok (keD x) S := by
  unfold Flow_order
  generalize x / 2 = a
  generalize 1 - x % 2 = b
  walk_at "z"
theorem py_ke (x : Int) (S : Sto) : pyS S (keD x) = some (keY x) := rfl
theorem py_up (u : Option Int) (S : Sto) : pyS S (upD u) = some (upY u) := by cases u <;> rfl
theorem sh2 (a b : Int) : PySem.SeqAt.shaped (.tuple [.int a, .int b]) = true := by
  unfold PySem.SeqAt.shaped
  simp [PySem.PyData.canLay0, PySem.PyData.canLayAll0, PySem.PyData.depth, PySem.PyData.depthAll]
theorem ltok2 (a b c d : Int) : LtOk (.tuple [.int a, .int b]) (.tuple [.int c, .int d]) := ⟨by simp [PySem.W.alike, PySem.W.alikeAll], by simp, sh2 a b, sh2 c d⟩
theorem lt_ke (x y : Int) : PySem.W.dataLt (keY x) (keY y) = decide (x < y) := by
  rw [lt_pair]
  apply decide_eq_decide.mpr
  omega
theorem lt_up (x y : Int) : PySem.W.dataLt (upY (some x)) (upY (some y)) = decide (x < y) := by
  show PySem.W.dataLt (.tuple _) (.tuple _) = _
  rw [lt_pair]
  apply decide_eq_decide.mpr
  omega
theorem up_lt (x y : Int) (S : Sto) : fLtD (upD (some x)) (upD (some y)) S = .ok (.bl (decide (x < y))) S := by
  show ordN (fun p q => PySem.W.dataLt p q) (upD (some x)) (upD (some y)) S = _
  unfold ordN
  rw [py_up, py_up]
  have h : LtOk (upY (some x)) (upY (some y)) := ltok2 _ _ _ _
  simp only [h, if_true, lt_up]
theorem keyGo_max (x y : Int) (S : Sto) : keyGo Flow_order gtP S (loD x) (keD x) [loD y] = .ok (loD (if x < y then y else x)) S := by
  have h : LtOk (keY y) (keY x) := ltok2 _ _ _ _
  have e : gtP (keY y) (keY x) = decide (x < y) := lt_ke x y
  rw [keyGo, order_eq]
  simp only [if_true, py_ke, h, e]
  by_cases hl : x < y
  · simp only [hl, decide_true, if_true, keyGo]
  · simp only [hl, decide_false, Bool.false_eq_true, if_false, keyGo]
theorem keyT_max (x y : Int) (S : Sto) : keyAll Flow_order gtP S [loD x, loD y] = .ok (loD (if x < y then y else x)) S := by
  rw [keyAll, order_eq]
  simp only [if_true, keyGo_max]
theorem keyGo_min : ∀ (ys : List Int) (x : Int) (S : Sto), ∃ z, keyGo Flow_order ltP S (loD x) (keD x) (ys.map loD) = .ok (loD z) S ∧ (z = x ∨ z ∈ ys) ∧ z ≤ x ∧ ∀ y ∈ ys, z ≤ y
  | [], x, S => ⟨x, by rw [List.map_nil, keyGo], .inl rfl, Int.le_refl _, fun y h => by cases h⟩
  | y :: ys, x, S => by
    have h : LtOk (keY y) (keY x) := ltok2 _ _ _ _
    have e : ltP (keY y) (keY x) = decide (y < x) := lt_ke y x
    rw [List.map_cons, keyGo, order_eq]
    simp only [if_true, py_ke, h, e]
    by_cases hl : y < x
    · simp only [hl, decide_true, if_true]
      obtain ⟨z, h1, h2, h3, h4⟩ := keyGo_min ys y S
      refine ⟨z, h1, .inr ?_, by omega, fun w hw => ?_⟩
      · rcases h2 with rfl | h2
        · exact List.mem_cons_self
        · exact List.mem_cons_of_mem _ h2
      · rcases List.mem_cons.mp hw with rfl | hw
        · exact h3
        · exact h4 w hw
    · simp only [hl, decide_false, Bool.false_eq_true, if_false]
      obtain ⟨z, h1, h2, h3, h4⟩ := keyGo_min ys x S
      refine ⟨z, h1, ?_, h3, fun w hw => ?_⟩
      · rcases h2 with rfl | h2
        · exact .inl rfl
        · exact .inr (List.mem_cons_of_mem _ h2)
      · rcases List.mem_cons.mp hw with rfl | hw
        · omega
        · exact h4 w hw
theorem keyAll_min (ys : List Int) (x : Int) (S : Sto) : ∃ z, keyAll Flow_order ltP S ((x :: ys).map loD) = .ok (loD z) S ∧ z ∈ x :: ys ∧ ∀ y ∈ x :: ys, z ≤ y := by
  obtain ⟨z, h1, h2, h3, h4⟩ := keyGo_min ys x S
  refine ⟨z, ?_, ?_, fun w hw => ?_⟩
  · rw [List.map_cons, keyAll, order_eq]
    simp only [if_true, h1]
  · rcases h2 with rfl | h2
    · exact List.mem_cons_self
    · exact List.mem_cons_of_mem _ h2
  · rcases List.mem_cons.mp hw with rfl | hw
    · exact h3
    · exact h4 w hw
/-- lower of two upper limits -/
def minO : Option Int → Option Int → Option Int
  | none, v => v
  | some a, none => some a
  | some a, some b => if b < a then some b else some a
noncomputable def mB : SDen := (sSeq (sSet 1 (dKeyT Flow_order gtP (aCons (dVar 1) (aCons (dVar 3) (aNil))))) (sIf (tOr' (tB' (dIsN (dVar 2))) (tAnd' (tB' (dNotN (dVar 4))) (tB' (bin fLtD (dVar 4) (dVar 2))))) (sSet 2 (dVar 4)) (sNil)))
theorem meet_def : Fspan_meet = starF 0 (fnF 5 (sSeq (sAsg (gT [gN 1, gN 2]) (dC (.tup [(.tup [(.int (0)), (.int (1))]), .non]))) (sSeq (sFor (iAny (dVar 0)) (gT [gN 3, gN 4]) mB) (sRet (dIf (tB' (dCall (arity 2 Fhas_moment) [] (aCons (dVar 1) (aCons (dVar 2) (aNil))))) (dTup (aCons (dVar 1) (aCons (dVar 2) (aNil)))) (dC .non)))))) := rfl
theorem mB_eq {a : Option D} {x y : Int} {u v : Option Int} {S : Sto} : mB [a, some (loD x), some (upD u), some (loD y), some (upD v)] S = .nx [a, some (loD (if x < y then y else x)), some (upD (minO u v)), some (loD y), some (upD v)] S := by
  have e1 : dKeyT Flow_order gtP (aCons (dVar 1) (aCons (dVar 3) (aNil))) [a, some (loD x), some (upD u), some (loD y), some (upD v)] S = .ok (loD (if x < y then y else x)) S := by
    have e := keyT_max x y S
    unfold dKeyT
    generalize loD x = X at *
    generalize loD y = Y at *
    generalize loD (if x < y then y else x) = Z at *
    simp [aCons, aNil, dVar, R.bind_ok, e]
  unfold mB
  generalize dKeyT Flow_order gtP (aCons (dVar 1) (aCons (dVar 3) (aNil))) = dk at *
  generalize loD x = X at *
  generalize loD y = Y at *
  generalize loD (if x < y then y else x) = Z at *
  cases u with
  | none =>
    rw [upD_n] at e1
    simp [upD_n, minO, sSeq, sSet, sIf, sNil, tOr', tAnd', tB', dIsN, dNotN, dVar, isNon, asB_bl, R.bind_ok, R.lift_ok, F.then_nx, e1]
  | some b =>
    cases v with
    | none =>
      rw [upD_n, upD_s] at e1
      simp [upD_n, upD_s, minO, sSeq, sSet, sIf, sNil, tOr', tAnd', tB', dIsN, dNotN, dVar, isNon, asB_bl, R.bind_ok, R.lift_ok, F.then_nx, e1]
    | some c =>
      have e2 := up_lt c b S
      rw [upD_s, upD_s] at e1 e2
      by_cases hl : c < b
      · simp [upD_s, minO, hl, sSeq, sSet, sIf, sNil, tOr', tAnd', tB', dIsN, dNotN, dVar, bin, isNon, asB_bl, R.bind_ok, R.lift_ok, F.then_nx, e1, e2]
      · simp [upD_s, minO, hl, sSeq, sSet, sIf, sNil, tOr', tAnd', tB', dIsN, dNotN, dVar, bin, isNon, asB_bl, R.bind_ok, R.lift_ok, F.then_nx, e1, e2]
def meetP (t : Int × Option Int) (ts : List (Int × Option Int)) : Int × Option Int := ts.foldl (fun t s => (if t.1 < s.1 then s.1 else t.1, minO t.2 s.2)) t
abbrev spV (t : Int × Option Int) : D := spU t.1 t.2
theorem meet_go {a : Option D} {S : Sto} : ∀ (ts : List (Int × Option Int)) (t : Int × Option Int) (x3 x4 : Option D), ∃ x3' x4',
    forGo (fun _ => True) (gT [gN 3, gN 4]) mB (ts.map spV) [a, some (loD t.1), some (upD t.2), x3, x4] S = .nx [a, some (loD (meetP t ts).1), some (upD (meetP t ts).2), x3', x4'] S
  | [], t, x3, x4 => ⟨x3, x4, forGo_nil trivial⟩
  | s :: ts, t, x3, x4 => by
    obtain ⟨x3', x4', ih⟩ := meet_go ts (if t.1 < s.1 then s.1 else t.1, minO t.2 s.2) (some (loD s.1)) (some (upD s.2))
    refine ⟨x3', x4', ?_⟩
    have eg : (gT [gN 3, gN 4]).run (spV s) [a, some (loD t.1), some (upD t.2), x3, x4] = some [a, some (loD t.1), some (upD t.2), some (loD s.1), some (upD s.2)] := rfl
    rw [List.map_cons, forGo, if_pos trivial, eg]
    simp only [mB_eq]
    exact ih
def leO (x : Int) : Option Int → Bool
  | none => true
  | some u => decide (x ≤ u)
theorem hasU (x : Int) (u : Option Int) (S : Sto) : Fhas_moment [loD x, upD u] S = .ok (.bl (leO x u)) S := by
  cases u with
  | none => exact hasm_eq (l := x / 2) (r := 1 - x % 2) (h := none) S
  | some u =>
    have e := hasm_eq (l := x / 2) (r := 1 - x % 2) (h := some ((u + 1) / 2, 1 - u % 2)) S
    refine e.trans ?_
    congr 2
    apply decide_eq_decide.mpr
    simp only
    omega
def meetD (m : Int × Option Int) : D := if leO m.1 m.2 = true then spV m else .non
theorem meet_eq (ts : List (Int × Option Int)) (hl : ts.length ≤ 6) (S : Sto) : Fspan_meet (ts.map spV) S = .ok (meetD (meetP (0, none) ts)) S := by
  obtain ⟨x3, x4, h⟩ := meet_go (a := some (.tup (ts.map spV))) (S := S) ts (0, none) none none
  have hf : Fit (ts.map spV).length := of_eq_true (sz_le (by rw [List.length_map]; omega))
  have st : still (.tup (ts.map spV)) (ts.map spV) = fun _ => True := rfl
  have e0 : (D.tup [(.tup [(.int (0)), (.int (1))]), .non]) = D.tup [loD 0, upD none] := rfl
  have hm := hasU (meetP (0, none) ts).1 (meetP (0, none) ts).2 S
  have ed : meetD (meetP (0, none) ts) = if leO (meetP (0, none) ts).1 (meetP (0, none) ts).2 = true then D.tup [loD (meetP (0, none) ts).1, upD (meetP (0, none) ts).2] else .non := rfl
  rw [meet_def, e0, ed]
  simp only at h
  generalize meetP (0, none) ts = M at *
  generalize ts.map spV = L at *
  generalize leO M.1 M.2 = b at *
  generalize loD 0 = Z at *
  generalize upD none = N at *
  generalize loD M.1 = A at *
  generalize upD M.2 = B at *
  have eg : (gT [gN 1, gN 2]).run (D.tup [Z, N]) [some (D.tup L), none, none, none, none] = some [some (D.tup L), some Z, some N, none, none] := rfl
  generalize gT [gN 1, gN 2] = g1 at *
  generalize gT [gN 3, gN 4] = g3 at *
  cases b <;> simp [starF, hf, fnF_eq, sSeq, sAsg, sFor, iAny, asAny, asSeq, eg, mkT, dTup, sz_le, aCons, aNil, dC, R.bind_ok, R.lift_ok, dVar, seqOf, st, F.then_nx, h, hm, sRet, F.fin_rt, dIf, tB', dCall, arity, asB_bl]
end K03
end

section
set_option Elab.async false
set_option linter.all false
set_option maxRecDepth 100000
set_option maxHeartbeats 1000000
open Z
local macro_rules | `(tactic| walk_at "z") => `(tactic| simp [fnF_eq, sSeq, sSet, sRet, sIf, sDrop, sNil, sAsg, sPar, sPut, F.then_nx, F.then_rt, F.then_bk, F.then_ct, F.then_ex, F.then_bad, F.then_ite, R.lift_ok, R.lift_ex, R.lift_bad, R.lift_ite, R.bind_ok, R.bind_ex, R.bind_bad, R.bind_ite, F.fin_nx, F.fin_rt, F.fin_ex, F.fin_bad, F.fin_ite, dVar, dC, bin, un, dAnd, dOr, dNot, tB', tAnd', tOr', tNot', dIf, asB_bl, aNil, aCons, dTup, mkT, dLst, mkL, fIx, seqOf, lstOf, L2.atI, L2.ixN, fAdd, fPlus, dSl, oSome, oNone, asI, fSl, fInT, fStr, fIntT, fFmt, dFmt, dJs, fPart, fStarts, fFind, fIsdig, fIsasc, fMulS, fSub, fMul, fLt, fGt, fLe, fGe, fEq, fDiv, fMod, fNeg, fPow, arity, dCall, dCallY, dCallK, dCallX, dSoSetL, noEx, dCB, fGcd, fLen, fMax2, fMin2, fInt, gN, gT, gAll, dIsi, fIsi, isTy, refOk, dIsN, dNotN, dIsB, dNotB, isNon, isBl, sz_lt, sz_le, sRaise, sTry, collapse_const, endX, dXf, dXis, dBM, dBM0, fPop, fApp, fRevM, fIns, fPopAt, tTr, fTr, aStar, dSoSet, sRetN, fTuple, fAbs, tyD, *])
local macro_rules | `(tactic| walk_at "y") => `(tactic| simp [fnF_eq, sSeq, sSet, sRet, sIf, sDrop, sNil, sAsg, sPar, sPut, F.then_nx, F.then_rt, F.then_bk, F.then_ct, F.then_ex, F.then_bad, F.then_ite, R.lift_ok, R.lift_ex, R.lift_bad, R.lift_ite, R.bind_ok, R.bind_ex, R.bind_bad, R.bind_ite, F.fin_nx, F.fin_rt, F.fin_ex, F.fin_bad, F.fin_ite, dVar, dC, bin, un, dAnd, dOr, dNot, tB', tAnd', tOr', tNot', dIf, asB_bl, aNil, aCons, dTup, mkT, dLst, mkL, fIx, seqOf, lstOf, L2.atI, L2.ixN, fAdd, fPlus, dSl, oSome, oNone, asI, fSl, fInT, fStr, fIntT, fFmt, dFmt, dJs, fPart, fStarts, fFind, fIsdig, fIsasc, fMulS, fSub, fMul, fLt, fGt, fLe, fGe, fEq, fDiv, fMod, fNeg, fPow, arity, dCall, dCallY, dCallK, dCallX, dSoSetL, noEx, dCB, fGcd, fLen, fMax2, fMin2, fInt, sFor, iRng1, fRng1, iSeq, asSeq, iAny, asAny, dIsi, fIsi, isTy, refOk, dIsN, dNotN, dIsB, dNotB, isNon, isBl, sz_lt, sz_le, sRaise, sTry, collapse_const, endX, dXf, dXis, dBM, dBM0, fPop, fApp, fRevM, fIns, fPopAt, tTr, fTr, aStar, dSoSet, sRetN, fTuple, fAbs, tyD, *])
local macro_rules | `(tactic| walk_at "v") => `(tactic| simp [fnF_eq, sSeq, sSet, sRet, sIf, sDrop, sNil, sAsg, sPar, sPut, F.then_nx, F.then_rt, F.then_bk, F.then_ct, F.then_ex, F.then_bad, F.then_ite, R.lift_ok, R.lift_ex, R.lift_bad, R.lift_ite, R.bind_ok, R.bind_ex, R.bind_bad, R.bind_ite, F.fin_nx, F.fin_rt, F.fin_ex, F.fin_bad, F.fin_ite, dVar, dC, bin, un, dAnd, dOr, dNot, tB', tAnd', tOr', tNot', dIf, asB_bl, aNil, aCons, dTup, mkT, dLst, mkL, seqOf, lstOf, fAdd, fPlus, dSl, oSome, oNone, asI, fInT, fStr, fIntT, fFmt, dFmt, dJs, fPart, fStarts, fFind, fIsdig, fIsasc, fMulS, fSub, fLt, fGt, fLe, fGe, fEq, fMod, fNeg, fPow, arity, dCall, dCallY, dCallK, dCallX, dSoSetL, noEx, dCB, fGcd, fMax2, fMin2, fInt, gN, gT, gAll, dIsi, fIsi, isTy, refOk, dIsN, dNotN, dIsB, dNotB, isNon, isBl, sz_lt, sz_le, sRaise, sTry, collapse_const, endX, dXf, dXis, dBM, dBM0, tTr, fTr, aStar, sRetN, fAbs, *])
local macro_rules | `(tactic| walk_at "u") => `(tactic| simp [fnF_eq, sSeq, sSet, sRet, sIf, sDrop, sNil, sAsg, sPar, sPut, F.then_nx, F.then_rt, F.then_bk, F.then_ct, F.then_ex, F.then_bad, F.then_ite, R.lift_ok, R.lift_ex, R.lift_bad, R.lift_ite, R.bind_ok, R.bind_ex, R.bind_bad, R.bind_ite, F.fin_nx, F.fin_rt, F.fin_ex, F.fin_bad, F.fin_ite, dVar, dC, bin, un, dAnd, dOr, dNot, tB', tAnd', tOr', tNot', dIf, asB_bl, aNil, aCons, dTup, mkT, dLst, mkL, seqOf, lstOf, fAdd, fPlus, dSl, oSome, oNone, asI, fInT, fStr, fIntT, fFmt, dFmt, dJs, fPart, fStarts, fFind, fIsdig, fIsasc, fMulS, fSub, fLt, fGt, fLe, fGe, fEq, fMod, fNeg, fPow, arity, dCall, dCallY, dCallK, dCallX, dSoSetL, noEx, dCB, fGcd, fMax2, fMin2, fInt, dIsi, fIsi, isTy, refOk, dIsN, dNotN, dIsB, dNotB, isNon, isBl, sz_lt, sz_le, sRaise, sTry, collapse_const, endX, dXf, dXis, dBM, dBM0, tTr, fTr, aStar, sRetN, fAbs, sFor, iAny, iRng1, iEn, *])
local macro_rules | `(tactic| walk_at "t") => `(tactic| simp [fnF_eq, sSeq, sSet, sRet, sIf, sDrop, sNil, sAsg, sPar, sPut, F.then_nx, F.then_rt, F.then_bk, F.then_ct, F.then_ex, F.then_bad, F.then_ite, R.lift_ok, R.lift_ex, R.lift_bad, R.lift_ite, R.bind_ok, R.bind_ex, R.bind_bad, R.bind_ite, F.fin_nx, F.fin_rt, F.fin_ex, F.fin_bad, F.fin_ite, dVar, dC, bin, un, dAnd, dOr, dNot, tB', tAnd', tOr', tNot', dIf, asB_bl, aNil, aCons, dTup, mkT, dLst, mkL, seqOf, lstOf, fAdd, dSl, oSome, oNone, asI, fInT, fStr, fIntT, fFmt, dFmt, dJs, fPart, fStarts, fFind, fIsdig, fIsasc, fMulS, fSub, fLt, fGt, fLe, fGe, fEq, fMod, fNeg, fPow, arity, dCall, dCallY, dCallK, dCallX, dSoSetL, noEx, dCB, fGcd, fMax2, fMin2, fInt, dIsi, fIsi, isTy, refOk, dIsN, dNotN, dIsB, dNotB, isNon, isBl, sz_lt, sz_le, sRaise, sTry, collapse_const, endX, dXf, dXis, dBM, dBM0, tTr, fTr, aStar, sRetN, fAbs, sFor, iAny, iRng1, iEn, *])
namespace K03
theorem shaped_up (us : List (Option Int)) : PySem.SeqAt.shaped (.list (us.map upY)) = true := by
  have h1 : ∀ us : List (Option Int), PySem.PyData.canLayAll0 (us.map upY) = true := fun gs => by
    induction gs with
    | nil => simp [PySem.PyData.canLayAll0]
    | cons i gs ih => cases i <;> simp [upY, PySem.PyData.canLayAll0, PySem.PyData.canLay0, ih]
  have h2 : ∀ us : List (Option Int), PySem.PyData.depthAll (us.map upY) ≤ 6 := fun gs => by
    induction gs with
    | nil => simp [PySem.PyData.depthAll]
    | cons i gs ih => cases i <;> simp [upY, PySem.PyData.depthAll, PySem.PyData.depth] <;> omega
  have h3 := h2 us
  unfold PySem.SeqAt.shaped
  simp [PySem.PyData.canLay0, PySem.PyData.depth, h1]
  omega
theorem pyA_up : ∀ us : List (Option Int), pyA (us.map upD) = some (us.map upY)
  | [] => by rw [List.map_nil, pyA]; rfl
  | u :: us => by
    have e : pyD (upD u) = some (upY u) := by cases u <;> rfl
    rw [List.map_cons, pyA, e, pyA_up us]; rfl
theorem pys_up (S : Sto) : ∀ us : List (Option Int), pysS S (us.map upD) = some (us.map upY)
  | [] => by rw [List.map_nil, pysS]; rfl
  | u :: us => by rw [List.map_cons, pysS, py_up, pys_up S us]; rfl
theorem non_in (us : List (Option Int)) (S : Sto) : fInD false .non (.lst (us.map upD)) S = .ok (.bl (us.any fun u => u.isNone)) S := by
  have e1 : pyS S .non = some .none := rfl
  have e2 : pyS S (.lst (us.map upD)) = some (.list (us.map upY)) := by simp only [pyS]; rw [pyD, pyA_up]; rfl
  have s1 : PySem.SeqAt.shaped .none = true := by unfold PySem.SeqAt.shaped; simp [PySem.PyData.canLay0, PySem.PyData.depth]
  have s2 := shaped_up us
  unfold fInD
  rw [e1, e2]
  simp only [s1, s2, and_self, if_true, Bool.false_eq_true, if_false]
  congr 2
  induction us with
  | nil => rfl
  | cons u us ih =>
    have s2' := shaped_up us
    have ih' := ih (by simp only [pyS]; rw [pyD, pyA_up]; rfl) s2'
    rw [List.map_cons, List.any_cons, List.any_cons, ih']
    cases u <;> simp [upY, PySem.PyData.eqv]
/-- the best of a row of numbers, as max finds it -/
theorem best_go (vs : List Int) : ∀ k, k < vs.length → ∃ v, vs[PySem.argBest (fun i j => gtP (((vs.map some).map upY).getD i .none) (((vs.map some).map upY).getD j .none)) k]? = some v ∧ ∀ j, j ≤ k → ∀ w, vs[j]? = some w → w ≤ v := by
  have gd : ∀ (i : Nat) (v : Int), vs[i]? = some v → ((vs.map some).map upY).getD i .none = upY (some v) := fun i v e => by
    rw [List.getD_eq_getElem?_getD, List.getElem?_map, List.getElem?_map, e]
    rfl
  intro k
  induction k with
  | zero =>
    intro h
    refine ⟨vs[0], List.getElem?_eq_getElem h, fun j hj w hw => ?_⟩
    have : j = 0 := by omega
    subst this
    rw [List.getElem?_eq_getElem h] at hw
    cases hw
    exact Int.le_refl _
  | succ k ih =>
    intro h
    obtain ⟨v, e, hv⟩ := ih (by omega)
    have e2 : vs[k + 1]? = some vs[k + 1] := List.getElem?_eq_getElem h
    rw [PySem.argBest, gd _ _ e2, gd _ _ e]
    have c : gtP (upY (some vs[k + 1])) (upY (some v)) = decide (v < vs[k + 1]) := lt_up v vs[k + 1]
    rw [c]
    by_cases hl : v < vs[k + 1]
    · rw [if_pos (decide_eq_true hl)]
      refine ⟨vs[k + 1], e2, fun j hj w hw => ?_⟩
      by_cases hj2 : j = k + 1
      · subst hj2; rw [e2] at hw; cases hw; exact Int.le_refl _
      · have := hv j (by omega) w hw; omega
    · rw [if_neg (by simp [hl])]
      refine ⟨v, e, fun j hj w hw => ?_⟩
      by_cases hj2 : j = k + 1
      · subst hj2; rw [e2] at hw; cases hw; omega
      · exact hv j (by omega) w hw
theorem best_eq (vs : List Int) (hn : 0 < vs.length) (hl : vs.length ≤ 6) (S : Sto) : ∃ v, fBestD gtP [.lst ((vs.map some).map upD)] S = .ok (upD (some v)) S ∧ v ∈ vs ∧ ∀ w ∈ vs, w ≤ v := by
  obtain ⟨v, e, hv⟩ := best_go vs (vs.length - 1) (by omega)
  refine ⟨v, ?_, List.mem_of_getElem? e, fun w hw => ?_⟩
  · have m1 : MxOk ((vs.map some).map upY) := by
      refine ⟨by rw [List.length_map, List.length_map]; omega, ⟨fun x hx y hy => ?_, fun x hx => ?_⟩, ?_⟩
      · simp only [List.mem_map] at hx hy
        obtain ⟨_, ⟨a, _, rfl⟩, rfl⟩ := hx
        obtain ⟨_, ⟨b, _, rfl⟩, rfl⟩ := hy
        simp [upY, PySem.W.alike, PySem.W.alikeAll]
      · simp only [List.mem_map] at hx
        obtain ⟨_, ⟨a, _, rfl⟩, rfl⟩ := hx
        simp [upY]
      · have h2 : ∀ us : List (Option Int), PySem.PyData.depthAll (us.map upY) ≤ 6 := fun gs => by
          induction gs with
          | nil => simp [PySem.PyData.depthAll]
          | cons i gs ih => cases i <;> simp [upY, PySem.PyData.depthAll, PySem.PyData.depth] <;> omega
        exact Nat.le_trans (h2 _) (by decide)
    have e3 : bestAt gtP ((vs.map some).map upY) = PySem.argBest (fun i j => gtP (((vs.map some).map upY).getD i .none) (((vs.map some).map upY).getD j .none)) (vs.length - 1) := by
      unfold bestAt
      rw [List.length_map, List.length_map]
    have e4 : ((vs.map some).map upD)[bestAt gtP ((vs.map some).map upY)]? = some (upD (some v)) := by
      rw [e3, List.getElem?_map, List.getElem?_map, e]
      rfl
    unfold fBestD
    simp only [lstOf]
    rw [pys_up]
    simp only [m1, if_true]
    rw [e4]
  · obtain ⟨j, hj, ej⟩ := List.getElem_of_mem hw
    exact hv j (by omega) w (by rw [List.getElem?_eq_getElem hj, ej])
noncomputable def C1 : Den := dLc false (iAny (dVar 0)) [2] (gN 2) (tYesD) (bin fIx (dVar 2) (dC (.int 0)))
noncomputable def C2 : Den := dLc false (iAny (dVar 0)) [2] (gN 2) (tYesD) (bin fIx (dVar 2) (dC (.int 1)))
theorem cover_def : Fspan_cover = starF 0 (fnF 4 (sSeq (sIf (tNot' (tTr (dVar 0))) (sRet (dC .non)) (sNil)) (sSeq (sSet 1 (dKeyL Flow_order ltP (aCons C1 (aNil)))) (sSeq (sSet 3 C2) (sRet (dTup (aCons (dVar 1) (aCons (dIf (tB' (bin (fInD false) (dC .non) (dVar 3))) (dC .non) (dCB (fBestD gtP) (aCons (dVar 3) (aNil)))) (aNil))))))))) := rfl
def fst' : D → D
  | .tup (a :: _) => a
  | d => d
def snd' : D → D
  | .tup (_ :: b :: _) => b
  | d => d
theorem c1_eq (ts : List (Int × Option Int)) (hl : ts.length ≤ 6) (x1 x2 x3 : Option D) (S : Sto) : C1 [some (.tup (ts.map spV)), x1, x2, x3] S = .ok (.lst ((ts.map Prod.fst).map loD)) S := by
  have e : C1 [some (.tup (ts.map spV)), x1, x2, x3] S = lcEnd false ((ts.map spV).map fst') S := by
    unfold C1
    refine dLc_map (xs := ts.map spV) (S1 := S) (g := still (.tup (ts.map spV)) (ts.map spV)) fst' ?_ trivial (by rw [List.length_map]; omega) fun x hx => ?_
    · unfold iAny dVar
      simp only [List.getElem?_cons_zero, R.bind_ok]
      rfl
    · obtain ⟨t, _, rfl⟩ := List.mem_map.mp hx
      exact ⟨_, rfl, rfl⟩
  rw [e]
  unfold lcEnd
  rw [if_neg Bool.false_ne_true, List.map_map, List.map_map]
  rfl
theorem c2_eq (ts : List (Int × Option Int)) (hl : ts.length ≤ 6) (x1 x2 x3 : Option D) (S : Sto) : C2 [some (.tup (ts.map spV)), x1, x2, x3] S = .ok (.lst ((ts.map Prod.snd).map upD)) S := by
  have e : C2 [some (.tup (ts.map spV)), x1, x2, x3] S = lcEnd false ((ts.map spV).map snd') S := by
    unfold C2
    refine dLc_map (xs := ts.map spV) (S1 := S) (g := still (.tup (ts.map spV)) (ts.map spV)) snd' ?_ trivial (by rw [List.length_map]; omega) fun x hx => ?_
    · unfold iAny dVar
      simp only [List.getElem?_cons_zero, R.bind_ok]
      rfl
    · obtain ⟨t, _, rfl⟩ := List.mem_map.mp hx
      exact ⟨_, rfl, rfl⟩
  rw [e]
  unfold lcEnd
  rw [if_neg Bool.false_ne_true, List.map_map, List.map_map]
  rfl
theorem cover_nil (S : Sto) : Fspan_cover [] S = .ok .non S := by
  have hf : Fit 0 := of_eq_true (sz_le (by omega))
  rw [cover_def]
  simp [starF, hf, fnF_eq, sSeq, sIf, sRet, tNot', tTr, fTr, dVar, dC, seqOf, R.bind_ok, R.lift_ok, F.then_rt, F.fin_rt]
/-- the smallest span of some: its limits -/
structure Cov (ts : List (Int × Option Int)) (x : Int) (u : Option Int) : Prop where
  lo : ∃ t ∈ ts, t.1 = x
  le : ∀ t ∈ ts, x ≤ t.1
  up : (u = none ∧ ∃ t ∈ ts, t.2 = none) ∨ ∃ v, u = some v ∧ (∃ t ∈ ts, t.2 = some v) ∧ ∀ t ∈ ts, ∃ w, t.2 = some w ∧ w ≤ v
theorem somes : ∀ us : List (Option Int), (us.any fun u => u.isNone) = false → ∃ vs : List Int, us = vs.map some
  | [], _ => ⟨[], rfl⟩
  | none :: us, h => by simp at h
  | some v :: us, h => by
    obtain ⟨vs, e⟩ := somes us (by simpa using h)
    exact ⟨v :: vs, by rw [e]; rfl⟩
theorem cover_eq (ts : List (Int × Option Int)) (hn : ts ≠ []) (hl : ts.length ≤ 6) (S : Sto) : ∃ x u, Fspan_cover (ts.map spV) S = .ok (spU x u) S ∧ Cov ts x u := by
  have e1 : ∀ x1 x2 x3, C1 [some (.tup (ts.map spV)), x1, x2, x3] S = .ok (.lst ((ts.map Prod.fst).map loD)) S := fun x1 x2 x3 => c1_eq ts hl x1 x2 x3 S
  have e2 : ∀ x1 x2 x3, C2 [some (.tup (ts.map spV)), x1, x2, x3] S = .ok (.lst ((ts.map Prod.snd).map upD)) S := fun x1 x2 x3 => c2_eq ts hl x1 x2 x3 S
  have hf : Fit (ts.map spV).length := of_eq_true (sz_le (by rw [List.length_map]; omega))
  have hne : (ts.map spV).isEmpty = false := by cases ts with | nil => exact absurd rfl hn | cons t ts => rfl
  obtain ⟨z, k1, k2, k3⟩ : ∃ z, keyAll Flow_order ltP S ((ts.map Prod.fst).map loD) = .ok (loD z) S ∧ z ∈ ts.map Prod.fst ∧ ∀ y ∈ ts.map Prod.fst, z ≤ y := by
    cases ts with
    | nil => exact absurd rfl hn
    | cons t ts => exact keyAll_min (ts.map Prod.fst) t.1 S
  have e3 : ∀ x1 x2 x3, dKeyL Flow_order ltP (aCons C1 (aNil)) [some (.tup (ts.map spV)), x1, x2, x3] S = .ok (loD z) S := fun x1 x2 x3 => by
    unfold dKeyL
    simp only [aCons, aNil, e1, R.bind_ok, lstOf, k1]
  have e4 := non_in (ts.map Prod.snd) S
  have lo : ∃ t ∈ ts, t.1 = z := by
    obtain ⟨t, ht, e⟩ := List.mem_map.mp k2
    exact ⟨t, ht, e⟩
  have le : ∀ t ∈ ts, z ≤ t.1 := fun t ht => k3 _ (List.mem_map_of_mem ht)
  cases hb : (ts.map Prod.snd).any fun u => u.isNone with
  | true =>
    rw [hb] at e4
    refine ⟨z, none, ?_, lo, le, .inl ⟨rfl, ?_⟩⟩
    · have ed : spU z none = D.tup [loD z, .non] := rfl
      rw [cover_def, ed]
      clear ed lo le k1 k2 k3 e1 hb
      generalize dKeyL Flow_order ltP (aCons C1 (aNil)) = dk at *
      generalize C2 = dc at *
      generalize ts.map spV = L at *
      generalize loD z = Z at *
      generalize (ts.map Prod.snd).map upD = US at *
      simp [starF, hf, fnF_eq, sSeq, sSet, sIf, sNil, sRet, tNot', tTr, fTr, tB', dIf, dVar, dC, bin, seqOf, mkT, dTup, sz_le, aCons, aNil, R.bind_ok, R.lift_ok, F.then_nx, F.fin_rt, asB_bl, hne, e2, e3, e4]
    · obtain ⟨u, hu, hn2⟩ := List.any_eq_true.mp hb
      obtain ⟨t, ht, rfl⟩ := List.mem_map.mp hu
      exact ⟨t, ht, by simpa using hn2⟩
  | false =>
    rw [hb] at e4
    obtain ⟨vs, ev⟩ := somes _ hb
    have lv : vs.length = ts.length := by
      have := congrArg List.length ev
      simpa using this.symm
    obtain ⟨v, b1, b2, b3⟩ := best_eq vs (by rw [lv]; exact List.length_pos_iff.mpr hn) (by omega) S
    rw [← ev] at b1
    refine ⟨z, some v, ?_, lo, le, .inr ⟨v, rfl, ?_, fun t ht => ?_⟩⟩
    · have ed : spU z (some v) = D.tup [loD z, upD (some v)] := rfl
      rw [cover_def, ed]
      clear ed lo le k1 k2 k3 e1 hb b2 b3
      generalize dKeyL Flow_order ltP (aCons C1 (aNil)) = dk at *
      generalize C2 = dc at *
      generalize ts.map spV = L at *
      generalize loD z = Z at *
      generalize (ts.map Prod.snd).map upD = US at *
      generalize upD (some v) = UV at *
      simp [starF, hf, fnF_eq, sSeq, sSet, sIf, sNil, sRet, tNot', tTr, fTr, tB', dIf, dVar, dC, bin, dCB, seqOf, mkT, dTup, sz_le, aCons, aNil, R.bind_ok, R.lift_ok, F.then_nx, F.fin_rt, asB_bl, hne, e2, e3, e4, b1]
    · have : some v ∈ ts.map Prod.snd := by rw [ev]; exact List.mem_map_of_mem b2
      obtain ⟨t, ht, e⟩ := List.mem_map.mp this
      exact ⟨t, ht, e⟩
    · have : t.2 ∈ vs.map some := by rw [← ev]; exact List.mem_map_of_mem ht
      obtain ⟨w, hw, e⟩ := List.mem_map.mp this
      exact ⟨w, e.symm, b3 w hw⟩
end K03
end

section
set_option Elab.async false
set_option linter.all false
set_option maxRecDepth 100000
set_option maxHeartbeats 1000000
open Z
local macro_rules | `(tactic| walk_at "z") => `(tactic| simp [fnF_eq, sSeq, sSet, sRet, sIf, sDrop, sNil, sAsg, sPar, sPut, F.then_nx, F.then_rt, F.then_bk, F.then_ct, F.then_ex, F.then_bad, F.then_ite, R.lift_ok, R.lift_ex, R.lift_bad, R.lift_ite, R.bind_ok, R.bind_ex, R.bind_bad, R.bind_ite, F.fin_nx, F.fin_rt, F.fin_ex, F.fin_bad, F.fin_ite, dVar, dC, bin, un, dAnd, dOr, dNot, tB', tAnd', tOr', tNot', dIf, asB_bl, aNil, aCons, dTup, mkT, dLst, mkL, fIx, seqOf, lstOf, L2.atI, L2.ixN, fAdd, fPlus, dSl, oSome, oNone, asI, fSl, fInT, fStr, fIntT, fFmt, dFmt, dJs, fPart, fStarts, fFind, fIsdig, fIsasc, fMulS, fSub, fMul, fLt, fGt, fLe, fGe, fEq, fDiv, fMod, fNeg, fPow, arity, dCall, dCallY, dCallK, dCallX, dSoSetL, noEx, dCB, fGcd, fLen, fMax2, fMin2, fInt, gN, gT, gAll, dIsi, fIsi, isTy, refOk, dIsN, dNotN, dIsB, dNotB, isNon, isBl, sz_lt, sz_le, sRaise, sTry, collapse_const, endX, dXf, dXis, dBM, dBM0, fPop, fApp, fRevM, fIns, fPopAt, tTr, fTr, aStar, dSoSet, sRetN, fTuple, fAbs, tyD, *])
local macro_rules | `(tactic| walk_at "y") => `(tactic| simp [fnF_eq, sSeq, sSet, sRet, sIf, sDrop, sNil, sAsg, sPar, sPut, F.then_nx, F.then_rt, F.then_bk, F.then_ct, F.then_ex, F.then_bad, F.then_ite, R.lift_ok, R.lift_ex, R.lift_bad, R.lift_ite, R.bind_ok, R.bind_ex, R.bind_bad, R.bind_ite, F.fin_nx, F.fin_rt, F.fin_ex, F.fin_bad, F.fin_ite, dVar, dC, bin, un, dAnd, dOr, dNot, tB', tAnd', tOr', tNot', dIf, asB_bl, aNil, aCons, dTup, mkT, dLst, mkL, fIx, seqOf, lstOf, L2.atI, L2.ixN, fAdd, fPlus, dSl, oSome, oNone, asI, fSl, fInT, fStr, fIntT, fFmt, dFmt, dJs, fPart, fStarts, fFind, fIsdig, fIsasc, fMulS, fSub, fMul, fLt, fGt, fLe, fGe, fEq, fDiv, fMod, fNeg, fPow, arity, dCall, dCallY, dCallK, dCallX, dSoSetL, noEx, dCB, fGcd, fLen, fMax2, fMin2, fInt, sFor, iRng1, fRng1, iSeq, asSeq, iAny, asAny, dIsi, fIsi, isTy, refOk, dIsN, dNotN, dIsB, dNotB, isNon, isBl, sz_lt, sz_le, sRaise, sTry, collapse_const, endX, dXf, dXis, dBM, dBM0, fPop, fApp, fRevM, fIns, fPopAt, tTr, fTr, aStar, dSoSet, sRetN, fTuple, fAbs, tyD, *])
local macro_rules | `(tactic| walk_at "v") => `(tactic| simp [fnF_eq, sSeq, sSet, sRet, sIf, sDrop, sNil, sAsg, sPar, sPut, F.then_nx, F.then_rt, F.then_bk, F.then_ct, F.then_ex, F.then_bad, F.then_ite, R.lift_ok, R.lift_ex, R.lift_bad, R.lift_ite, R.bind_ok, R.bind_ex, R.bind_bad, R.bind_ite, F.fin_nx, F.fin_rt, F.fin_ex, F.fin_bad, F.fin_ite, dVar, dC, bin, un, dAnd, dOr, dNot, tB', tAnd', tOr', tNot', dIf, asB_bl, aNil, aCons, dTup, mkT, dLst, mkL, seqOf, lstOf, fAdd, fPlus, dSl, oSome, oNone, asI, fInT, fStr, fIntT, fFmt, dFmt, dJs, fPart, fStarts, fFind, fIsdig, fIsasc, fMulS, fSub, fLt, fGt, fLe, fGe, fEq, fMod, fNeg, fPow, arity, dCall, dCallY, dCallK, dCallX, dSoSetL, noEx, dCB, fGcd, fMax2, fMin2, fInt, gN, gT, gAll, dIsi, fIsi, isTy, refOk, dIsN, dNotN, dIsB, dNotB, isNon, isBl, sz_lt, sz_le, sRaise, sTry, collapse_const, endX, dXf, dXis, dBM, dBM0, tTr, fTr, aStar, sRetN, fAbs, *])
local macro_rules | `(tactic| walk_at "u") => `(tactic| simp [fnF_eq, sSeq, sSet, sRet, sIf, sDrop, sNil, sAsg, sPar, sPut, F.then_nx, F.then_rt, F.then_bk, F.then_ct, F.then_ex, F.then_bad, F.then_ite, R.lift_ok, R.lift_ex, R.lift_bad, R.lift_ite, R.bind_ok, R.bind_ex, R.bind_bad, R.bind_ite, F.fin_nx, F.fin_rt, F.fin_ex, F.fin_bad, F.fin_ite, dVar, dC, bin, un, dAnd, dOr, dNot, tB', tAnd', tOr', tNot', dIf, asB_bl, aNil, aCons, dTup, mkT, dLst, mkL, seqOf, lstOf, fAdd, fPlus, dSl, oSome, oNone, asI, fInT, fStr, fIntT, fFmt, dFmt, dJs, fPart, fStarts, fFind, fIsdig, fIsasc, fMulS, fSub, fLt, fGt, fLe, fGe, fEq, fMod, fNeg, fPow, arity, dCall, dCallY, dCallK, dCallX, dSoSetL, noEx, dCB, fGcd, fMax2, fMin2, fInt, dIsi, fIsi, isTy, refOk, dIsN, dNotN, dIsB, dNotB, isNon, isBl, sz_lt, sz_le, sRaise, sTry, collapse_const, endX, dXf, dXis, dBM, dBM0, tTr, fTr, aStar, sRetN, fAbs, sFor, iAny, iRng1, iEn, *])
local macro_rules | `(tactic| walk_at "t") => `(tactic| simp [fnF_eq, sSeq, sSet, sRet, sIf, sDrop, sNil, sAsg, sPar, sPut, F.then_nx, F.then_rt, F.then_bk, F.then_ct, F.then_ex, F.then_bad, F.then_ite, R.lift_ok, R.lift_ex, R.lift_bad, R.lift_ite, R.bind_ok, R.bind_ex, R.bind_bad, R.bind_ite, F.fin_nx, F.fin_rt, F.fin_ex, F.fin_bad, F.fin_ite, dVar, dC, bin, un, dAnd, dOr, dNot, tB', tAnd', tOr', tNot', dIf, asB_bl, aNil, aCons, dTup, mkT, dLst, mkL, seqOf, lstOf, fAdd, dSl, oSome, oNone, asI, fInT, fStr, fIntT, fFmt, dFmt, dJs, fPart, fStarts, fFind, fIsdig, fIsasc, fMulS, fSub, fLt, fGt, fLe, fGe, fEq, fMod, fNeg, fPow, arity, dCall, dCallY, dCallK, dCallX, dSoSetL, noEx, dCB, fGcd, fMax2, fMin2, fInt, dIsi, fIsi, isTy, refOk, dIsN, dNotN, dIsB, dNotB, isNon, isBl, sz_lt, sz_le, sRaise, sTry, collapse_const, endX, dXf, dXis, dBM, dBM0, tTr, fTr, aStar, sRetN, fAbs, sFor, iAny, iRng1, iEn, *])
namespace K03
/-- x is a row of these spans, whatever is laid behind -/
structure Row (S : Sto) (x : D) (L : List D) : Prop where
  sq : ∀ E, seqOf (S ++ E) x = some L
  ls : ∀ E, lstOf (S ++ E) x = some L
  st : ∀ E, still x L (S ++ E)
  an : ∀ E, asAny x (S ++ E) = .ok (L, still x L) (S ++ E)
theorem row_lst (S : Sto) (L : List D) : Row S (.lst L) L := ⟨fun _ => rfl, fun _ => rfl, fun _ => trivial, fun _ => rfl⟩
theorem row_ref {S : Sto} {n : Nat} {L : List D} (h : S[n]? = some (.lst L)) : Row S (.ref n) L := by
  have hl : n < S.length := (List.getElem?_eq_some_iff.mp h).1
  have g : ∀ E, (S ++ E)[n]? = some (.lst L) := fun E => by rw [List.getElem?_append_left hl]; exact h
  refine ⟨fun E => by simp only [seqOf, g E], fun E => by simp only [lstOf, g E], fun E => by simp only [still]; exact g E, fun E => ?_⟩
  show asSeq (.ref n) (S ++ E) = _
  unfold asSeq
  simp only [seqOf, g E]
theorem Row.app {S : Sto} {x : D} {L : List D} (r : Row S x L) (E : Sto) : Row (S ++ E) x L := ⟨fun E2 => by rw [List.append_assoc]; exact r.sq _, fun E2 => by rw [List.append_assoc]; exact r.ls _, fun E2 => by rw [List.append_assoc]; exact r.st _, fun E2 => by rw [List.append_assoc]; exact r.an _⟩
theorem Row.sq0 {S : Sto} {x : D} {L : List D} (r : Row S x L) : seqOf S x = some L := by have := r.sq []; rwa [List.append_nil] at this
theorem len_row {S : Sto} {x : D} {L : List D} (h : seqOf S x = some L) : fLen [x] S = .ok (.int L.length) S := by unfold fLen; simp only [h]
theorem ix_row {S : Sto} {x : D} {L : List D} {k : Nat} {d : D} (h : seqOf S x = some L) (e : L[k]? = some d) : fIx x (.int (k : Int)) S = .ok d S := by
  have hl : k < L.length := (List.getElem?_eq_some_iff.mp e).1
  have a : L2.atI L (k : Int) = some d := by
    unfold L2.atI L2.ixN
    have h1 : ¬ ((k : Int) < 0) := by omega
    have h2 : (k : Int) < L.length := by omega
    simp [h1, h2, e]
  unfold fIx
  simp only [h, a]
theorem met0 {S : Sto} {x v : D} (h : seqOf S x = some []) (hm : Fspan_meet [] S = .ok v S) : F_law_met [x] S = .ok v S := by
  have l0 : fLen [x] S = .ok (.int 0) S := len_row h
  clear h
  unfold F_law_met
  walk_at "v"
theorem met1 {S : Sto} {x v a : D} (h : seqOf S x = some [a]) (hm : Fspan_meet [a] S = .ok v S) : F_law_met [x] S = .ok v S := by
  have l0 : fLen [x] S = .ok (.int 1) S := len_row h
  have i0 : fIx x (.int 0) S = .ok a S := ix_row (k := 0) h rfl
  clear h
  unfold F_law_met
  walk_at "v"
theorem met2 {S : Sto} {x v a b : D} (h : seqOf S x = some [a, b]) (hm : Fspan_meet [a, b] S = .ok v S) : F_law_met [x] S = .ok v S := by
  have l0 : fLen [x] S = .ok (.int 2) S := len_row h
  have i0 : fIx x (.int 0) S = .ok a S := ix_row (k := 0) h rfl
  have i1 : fIx x (.int 1) S = .ok b S := ix_row (k := 1) h rfl
  clear h
  unfold F_law_met
  walk_at "v"
theorem met3 {S : Sto} {x v a b c : D} (h : seqOf S x = some [a, b, c]) (hm : Fspan_meet [a, b, c] S = .ok v S) : F_law_met [x] S = .ok v S := by
  have l0 : fLen [x] S = .ok (.int 3) S := len_row h
  have i0 : fIx x (.int 0) S = .ok a S := ix_row (k := 0) h rfl
  have i1 : fIx x (.int 1) S = .ok b S := ix_row (k := 1) h rfl
  have i2 : fIx x (.int 2) S = .ok c S := ix_row (k := 2) h rfl
  clear h
  unfold F_law_met
  walk_at "v"
theorem met4 {S : Sto} {x v a b c d : D} (h : seqOf S x = some [a, b, c, d]) (hm : Fspan_meet [a, b, c, d] S = .ok v S) : F_law_met [x] S = .ok v S := by
  have l0 : fLen [x] S = .ok (.int 4) S := len_row h
  have i0 : fIx x (.int 0) S = .ok a S := ix_row (k := 0) h rfl
  have i1 : fIx x (.int 1) S = .ok b S := ix_row (k := 1) h rfl
  have i2 : fIx x (.int 2) S = .ok c S := ix_row (k := 2) h rfl
  have i3 : fIx x (.int 3) S = .ok d S := ix_row (k := 3) h rfl
  clear h
  unfold F_law_met
  walk_at "v"
theorem met5 {S : Sto} {x v a b c d e : D} (h : seqOf S x = some [a, b, c, d, e]) (hm : Fspan_meet [a, b, c, d, e] S = .ok v S) : F_law_met [x] S = .ok v S := by
  have l0 : fLen [x] S = .ok (.int 5) S := len_row h
  have i0 : fIx x (.int 0) S = .ok a S := ix_row (k := 0) h rfl
  have i1 : fIx x (.int 1) S = .ok b S := ix_row (k := 1) h rfl
  have i2 : fIx x (.int 2) S = .ok c S := ix_row (k := 2) h rfl
  have i3 : fIx x (.int 3) S = .ok d S := ix_row (k := 3) h rfl
  have i4 : fIx x (.int 4) S = .ok e S := ix_row (k := 4) h rfl
  clear h
  unfold F_law_met
  walk_at "v"
theorem met_eq {S : Sto} {x v : D} {L : List D} (h : seqOf S x = some L) (hl : L.length ≤ 5) (hm : Fspan_meet L S = .ok v S) : F_law_met [x] S = .ok v S := by
  match L, h, hl, hm with
  | [], h, _, hm => exact met0 h hm
  | [_], h, _, hm => exact met1 h hm
  | [_, _], h, _, hm => exact met2 h hm
  | [_, _, _], h, _, hm => exact met3 h hm
  | [_, _, _, _], h, _, hm => exact met4 h hm
  | [_, _, _, _, _], h, _, hm => exact met5 h hm
  | _ :: _ :: _ :: _ :: _ :: _ :: _, _, hl, _ => simp at hl
theorem covered0 {S : Sto} {x v : D} (h : seqOf S x = some []) (hm : Fspan_cover [] S = .ok v S) : F_law_covered [x] S = .ok v S := by
  have l0 : fLen [x] S = .ok (.int 0) S := len_row h
  clear h
  unfold F_law_covered
  walk_at "v"
theorem covered1 {S : Sto} {x v a : D} (h : seqOf S x = some [a]) (hm : Fspan_cover [a] S = .ok v S) : F_law_covered [x] S = .ok v S := by
  have l0 : fLen [x] S = .ok (.int 1) S := len_row h
  have i0 : fIx x (.int 0) S = .ok a S := ix_row (k := 0) h rfl
  clear h
  unfold F_law_covered
  walk_at "v"
theorem covered2 {S : Sto} {x v a b : D} (h : seqOf S x = some [a, b]) (hm : Fspan_cover [a, b] S = .ok v S) : F_law_covered [x] S = .ok v S := by
  have l0 : fLen [x] S = .ok (.int 2) S := len_row h
  have i0 : fIx x (.int 0) S = .ok a S := ix_row (k := 0) h rfl
  have i1 : fIx x (.int 1) S = .ok b S := ix_row (k := 1) h rfl
  clear h
  unfold F_law_covered
  walk_at "v"
theorem covered3 {S : Sto} {x v a b c : D} (h : seqOf S x = some [a, b, c]) (hm : Fspan_cover [a, b, c] S = .ok v S) : F_law_covered [x] S = .ok v S := by
  have l0 : fLen [x] S = .ok (.int 3) S := len_row h
  have i0 : fIx x (.int 0) S = .ok a S := ix_row (k := 0) h rfl
  have i1 : fIx x (.int 1) S = .ok b S := ix_row (k := 1) h rfl
  have i2 : fIx x (.int 2) S = .ok c S := ix_row (k := 2) h rfl
  clear h
  unfold F_law_covered
  walk_at "v"
theorem covered4 {S : Sto} {x v a b c d : D} (h : seqOf S x = some [a, b, c, d]) (hm : Fspan_cover [a, b, c, d] S = .ok v S) : F_law_covered [x] S = .ok v S := by
  have l0 : fLen [x] S = .ok (.int 4) S := len_row h
  have i0 : fIx x (.int 0) S = .ok a S := ix_row (k := 0) h rfl
  have i1 : fIx x (.int 1) S = .ok b S := ix_row (k := 1) h rfl
  have i2 : fIx x (.int 2) S = .ok c S := ix_row (k := 2) h rfl
  have i3 : fIx x (.int 3) S = .ok d S := ix_row (k := 3) h rfl
  clear h
  unfold F_law_covered
  walk_at "v"
theorem covered5 {S : Sto} {x v a b c d e : D} (h : seqOf S x = some [a, b, c, d, e]) (hm : Fspan_cover [a, b, c, d, e] S = .ok v S) : F_law_covered [x] S = .ok v S := by
  have l0 : fLen [x] S = .ok (.int 5) S := len_row h
  have i0 : fIx x (.int 0) S = .ok a S := ix_row (k := 0) h rfl
  have i1 : fIx x (.int 1) S = .ok b S := ix_row (k := 1) h rfl
  have i2 : fIx x (.int 2) S = .ok c S := ix_row (k := 2) h rfl
  have i3 : fIx x (.int 3) S = .ok d S := ix_row (k := 3) h rfl
  have i4 : fIx x (.int 4) S = .ok e S := ix_row (k := 4) h rfl
  clear h
  unfold F_law_covered
  walk_at "v"
theorem covered_eq {S : Sto} {x v : D} {L : List D} (h : seqOf S x = some L) (hl : L.length ≤ 5) (hm : Fspan_cover L S = .ok v S) : F_law_covered [x] S = .ok v S := by
  match L, h, hl, hm with
  | [], h, _, hm => exact covered0 h hm
  | [_], h, _, hm => exact covered1 h hm
  | [_, _], h, _, hm => exact covered2 h hm
  | [_, _, _], h, _, hm => exact covered3 h hm
  | [_, _, _, _], h, _, hm => exact covered4 h hm
  | [_, _, _, _, _], h, _, hm => exact covered5 h hm
  | _ :: _ :: _ :: _ :: _ :: _ :: _, _, hl, _ => simp at hl
/-! ### the numbers -/
def inU (x : Int) (t : Int × Option Int) : Bool := decide (t.1 ≤ x) && leO x t.2
/-- what spans have in common -/
structure Meet (ts : List (Int × Option Int)) (x : Int) (u : Option Int) : Prop where
  x0 : 0 ≤ x
  lo : x = 0 ∨ ∃ t ∈ ts, t.1 = x
  le : ∀ t ∈ ts, t.1 ≤ x
  up : (u = none ∧ ∀ t ∈ ts, t.2 = none) ∨ ∃ v, u = some v ∧ (∃ t ∈ ts, t.2 = some v) ∧ ∀ t ∈ ts, ∀ w, t.2 = some w → v ≤ w
theorem Meet.one {ts : List (Int × Option Int)} {x y : Int} {u v : Option Int} (h : Meet ts x u) : Meet (ts ++ [(y, v)]) (if x < y then y else x) (minO u v) := by
  obtain ⟨x0, lo, le, up⟩ := h
  refine ⟨by split <;> omega, ?_, fun t ht => ?_, ?_⟩
  · split
    · exact .inr ⟨(y, v), by simp, rfl⟩
    · rcases lo with lo | ⟨t, ht, e⟩
      · exact .inl lo
      · exact .inr ⟨t, List.mem_append_left _ ht, e⟩
  · rcases List.mem_append.mp ht with ht | ht
    · have := le t ht
      split <;> omega
    · simp only [List.mem_cons, List.not_mem_nil, or_false] at ht
      subst ht
      simp only
      split <;> omega
  · rcases up with ⟨rfl, up⟩ | ⟨a, rfl, ⟨t, ht, et⟩, up⟩
    · cases v with
      | none =>
        refine .inl ⟨rfl, fun t ht => ?_⟩
        rcases List.mem_append.mp ht with ht | ht
        · exact up t ht
        · simp only [List.mem_cons, List.not_mem_nil, or_false] at ht
          subst ht; rfl
      | some b =>
        refine .inr ⟨b, rfl, ⟨(y, some b), by simp, rfl⟩, fun t ht w hw => ?_⟩
        rcases List.mem_append.mp ht with ht | ht
        · rw [up t ht] at hw; cases hw
        · simp only [List.mem_cons, List.not_mem_nil, or_false] at ht
          subst ht; cases hw; exact Int.le_refl _
    · cases v with
      | none =>
        refine .inr ⟨a, rfl, ⟨t, List.mem_append_left _ ht, et⟩, fun t' ht' w hw => ?_⟩
        rcases List.mem_append.mp ht' with ht' | ht'
        · exact up t' ht' w hw
        · simp only [List.mem_cons, List.not_mem_nil, or_false] at ht'
          subst ht'; cases hw
      | some b =>
        by_cases hl : b < a
        · refine .inr ⟨b, by simp [minO, hl], ⟨(y, some b), by simp, rfl⟩, fun t' ht' w hw => ?_⟩
          rcases List.mem_append.mp ht' with ht' | ht'
          · have := up t' ht' w hw; omega
          · simp only [List.mem_cons, List.not_mem_nil, or_false] at ht'
            subst ht'; cases hw; exact Int.le_refl _
        · refine .inr ⟨a, by simp [minO, hl], ⟨t, List.mem_append_left _ ht, et⟩, fun t' ht' w hw => ?_⟩
          rcases List.mem_append.mp ht' with ht' | ht'
          · exact up t' ht' w hw
          · simp only [List.mem_cons, List.not_mem_nil, or_false] at ht'
            subst ht'; cases hw; omega
theorem meet_all : ∀ (ts ps : List (Int × Option Int)) (t : Int × Option Int), Meet ps t.1 t.2 → Meet (ps ++ ts) (meetP t ts).1 (meetP t ts).2
  | [], ps, t, h => by rw [List.append_nil]; exact h
  | s :: ts, ps, t, h => by
    have h2 := h.one (y := s.1) (v := s.2)
    have h3 := meet_all ts (ps ++ [s]) (if t.1 < s.1 then s.1 else t.1, minO t.2 s.2) h2
    rw [List.append_assoc, List.singleton_append] at h3
    exact h3
theorem meet_of (ts : List (Int × Option Int)) : Meet ts (meetP (0, none) ts).1 (meetP (0, none) ts).2 :=
  meet_all ts [] (0, none) ⟨Int.le_refl _, .inl rfl, fun t h => (List.not_mem_nil h).elim, .inl ⟨rfl, fun t h => (List.not_mem_nil h).elim⟩⟩
def hullD (zs : List Int) (last : Int) : D := match zs.head?, zs.getLast? with
  | some a, some b => spU a (if b = last then none else some b)
  | _, _ => .non
theorem filt_first {p : Int → Bool} {m : Int} : ∀ {xs : List Int}, xs.Pairwise (· < ·) → m ∈ xs → p m = true → (∀ x ∈ xs, p x = true → m ≤ x) → (xs.filter p).head? = some m
  | x :: xs, hp, hm, pm, hl => by
    obtain ⟨h1, h2⟩ := List.pairwise_cons.mp hp
    rcases List.mem_cons.mp hm with rfl | hm
    · rw [List.filter_cons_of_pos pm]; rfl
    · have hx : ¬ p x = true := fun z => by
        have := hl x List.mem_cons_self z
        have := h1 m hm
        omega
      rw [List.filter_cons_of_neg hx]
      exact filt_first h2 hm pm fun y hy => hl y (List.mem_cons_of_mem _ hy)
theorem filt_last {p : Int → Bool} {m : Int} : ∀ {xs : List Int}, xs.Pairwise (· < ·) → m ∈ xs → p m = true → (∀ x ∈ xs, p x = true → x ≤ m) → (xs.filter p).getLast? = some m
  | x :: xs, hp, hm, pm, hl => by
    obtain ⟨h1, h2⟩ := List.pairwise_cons.mp hp
    rcases List.mem_cons.mp hm with rfl | hm
    · have : xs.filter p = [] := List.filter_eq_nil_iff.mpr fun y hy z => by
        have := hl y (List.mem_cons_of_mem _ hy) z
        have := h1 y hy
        omega
      rw [List.filter_cons_of_pos pm, this]; rfl
    · have ih := filt_last h2 hm pm fun y hy => hl y (List.mem_cons_of_mem _ hy)
      by_cases px : p x = true
      · rw [List.filter_cons_of_pos px, List.getLast?_cons, ih]; rfl
      · rw [List.filter_cons_of_neg px]; exact ih
theorem hull_of {p : Int → Bool} {xs : List Int} {a b last : Int} (hp : xs.Pairwise (· < ·)) (ha : a ∈ xs) (pa : p a = true) (la : ∀ x ∈ xs, p x = true → a ≤ x) (hb : b ∈ xs) (pb : p b = true) (lb : ∀ x ∈ xs, p x = true → x ≤ b) :
    hullD (xs.filter p) last = spU a (if b = last then none else some b) := by
  unfold hullD
  rw [filt_first hp ha pa la, filt_last hp hb pb lb]
/-- the hours that are looked at -/
structure Smp (ts : List (Int × Option Int)) (xs : List Int) (last : Int) : Prop where
  pw : xs.Pairwise (· < ·)
  z0 : (0 : Int) ∈ xs
  zl : last ∈ xs
  ge : ∀ x ∈ xs, 0 ≤ x
  le : ∀ x ∈ xs, x ≤ last
  lo : ∀ t ∈ ts, t.1 ∈ xs
  up : ∀ t ∈ ts, ∀ u, t.2 = some u → u ∈ xs ∧ u < last ∧ t.1 ≤ u
theorem hull_meet {ts : List (Int × Option Int)} {xs : List Int} {last : Int} (h : Smp ts xs last) : hullD (xs.filter fun x => ts.all (inU x)) last = meetD (meetP (0, none) ts) := by
  have m := meet_of ts
  generalize (meetP (0, none) ts) = M at *
  obtain ⟨x, u⟩ := M
  obtain ⟨x0, lo, le, up⟩ := m
  simp only at x0 lo le up
  have hx : x ∈ xs := by
    rcases lo with rfl | ⟨t, ht, rfl⟩
    · exact h.z0
    · exact h.lo t ht
  have all_iff : ∀ z, 0 ≤ z → (ts.all (inU z) = true ↔ x ≤ z ∧ leO z u = true) := fun z hz => by
    rw [List.all_eq_true]
    constructor
    · intro ha
      constructor
      · rcases lo with rfl | ⟨t, ht, rfl⟩
        · exact hz
        · have := ha t ht
          unfold inU at this
          simp only [Bool.and_eq_true, decide_eq_true_eq] at this
          exact this.1
      · rcases up with ⟨rfl, _⟩ | ⟨v, rfl, ⟨t, ht, et⟩, _⟩
        · rfl
        · have := ha t ht
          unfold inU at this
          rw [et] at this
          simp only [Bool.and_eq_true] at this
          exact this.2
    · intro ⟨h1, h2⟩ t ht
      unfold inU
      simp only [Bool.and_eq_true, decide_eq_true_eq]
      refine ⟨Int.le_trans (le t ht) h1, ?_⟩
      cases et : t.2 with
      | none => rfl
      | some w =>
        rcases up with ⟨rfl, hn⟩ | ⟨v, rfl, _, hv⟩
        · rw [hn t ht] at et; cases et
        · have := hv t ht w et
          simp only [leO, decide_eq_true_eq] at h2 ⊢
          omega
  unfold meetD
  simp only
  by_cases hl : leO x u = true
  · rw [if_pos hl]
    cases u with
    | none =>
      rw [hull_of h.pw hx ((all_iff x x0).mpr ⟨Int.le_refl _, rfl⟩) (fun z hz pz => ((all_iff z (h.ge z hz)).mp pz).1) h.zl ((all_iff last (h.ge _ h.zl)).mpr ⟨h.le x hx, rfl⟩) (fun z hz _ => h.le z hz), if_pos rfl]
    | some v =>
      rcases up with ⟨e, _⟩ | ⟨v', e, ⟨t, ht, et⟩, _⟩
      · cases e
      cases e
      obtain ⟨k1, k2, k3⟩ := h.up t ht v et
      have hxv : x ≤ v := by simpa [leO] using hl
      rw [hull_of h.pw hx ((all_iff x x0).mpr ⟨Int.le_refl _, hl⟩) (fun z hz pz => ((all_iff z (h.ge z hz)).mp pz).1) k1 ((all_iff v (by omega)).mpr ⟨hxv, by simp [leO]⟩) (fun z hz pz => by
        have := ((all_iff z (h.ge z hz)).mp pz).2
        simpa [leO] using this), if_neg (by omega)]
  · rw [if_neg hl]
    have : xs.filter (fun z => ts.all (inU z)) = [] := List.filter_eq_nil_iff.mpr fun z hz pz => by
      obtain ⟨h1, h2⟩ := (all_iff z (h.ge z hz)).mp pz
      cases u with
      | none => exact hl rfl
      | some v =>
        simp only [leO, decide_eq_true_eq] at hl h2
        omega
    rw [this]
    rfl
theorem hull_cov {ts : List (Int × Option Int)} {xs : List Int} {last x : Int} {u : Option Int} (h : Smp ts xs last) (c : Cov ts x u) : hullD (xs.filter fun x => ts.any (inU x)) last = spU x u := by
  obtain ⟨⟨t0, ht0, rfl⟩, le, up⟩ := c
  have self : ∀ t ∈ ts, ts.any (inU t.1) = true := fun t ht => List.any_eq_true.mpr ⟨t, ht, by
    unfold inU
    simp only [Bool.and_eq_true, decide_eq_true_eq]
    refine ⟨Int.le_refl _, ?_⟩
    cases et : t.2 with
    | none => rfl
    | some w => simpa [leO] using (h.up t ht w et).2.2⟩
  have low : ∀ z ∈ xs, ts.any (inU z) = true → t0.1 ≤ z := fun z _ pz => by
    obtain ⟨t, ht, hz⟩ := List.any_eq_true.mp pz
    unfold inU at hz
    simp only [Bool.and_eq_true, decide_eq_true_eq] at hz
    exact Int.le_trans (le t ht) hz.1
  rcases up with ⟨rfl, t, ht, et⟩ | ⟨v, rfl, ⟨t, ht, et⟩, hv⟩
  · rw [hull_of h.pw (h.lo _ ht0) (self _ ht0) low h.zl (List.any_eq_true.mpr ⟨t, ht, by unfold inU; rw [et]; simp [leO, h.le _ (h.lo _ ht)]⟩) (fun z hz _ => h.le z hz), if_pos rfl]
  · obtain ⟨k1, k2, k3⟩ := h.up t ht v et
    rw [hull_of h.pw (h.lo _ ht0) (self _ ht0) low k1 (List.any_eq_true.mpr ⟨t, ht, by unfold inU; rw [et]; simp [leO, k3]⟩) (fun z hz pz => by
      obtain ⟨t', ht', hz'⟩ := List.any_eq_true.mp pz
      obtain ⟨w, ew, hw⟩ := hv t' ht'
      unfold inU at hz'
      rw [ew] at hz'
      simp only [leO, Bool.and_eq_true, decide_eq_true_eq] at hz'
      omega), if_neg (by omega)]
end K03
end

section
set_option Elab.async false
set_option linter.all false
set_option maxRecDepth 100000
set_option maxHeartbeats 1000000
open Z
local macro_rules | `(tactic| walk_at "z") => `(tactic| simp [fnF_eq, sSeq, sSet, sRet, sIf, sDrop, sNil, sAsg, sPar, sPut, F.then_nx, F.then_rt, F.then_bk, F.then_ct, F.then_ex, F.then_bad, F.then_ite, R.lift_ok, R.lift_ex, R.lift_bad, R.lift_ite, R.bind_ok, R.bind_ex, R.bind_bad, R.bind_ite, F.fin_nx, F.fin_rt, F.fin_ex, F.fin_bad, F.fin_ite, dVar, dC, bin, un, dAnd, dOr, dNot, tB', tAnd', tOr', tNot', dIf, asB_bl, aNil, aCons, dTup, mkT, dLst, mkL, fIx, seqOf, lstOf, L2.atI, L2.ixN, fAdd, fPlus, dSl, oSome, oNone, asI, fSl, fInT, fStr, fIntT, fFmt, dFmt, dJs, fPart, fStarts, fFind, fIsdig, fIsasc, fMulS, fSub, fMul, fLt, fGt, fLe, fGe, fEq, fDiv, fMod, fNeg, fPow, arity, dCall, dCallY, dCallK, dCallX, dSoSetL, noEx, dCB, fGcd, fLen, fMax2, fMin2, fInt, gN, gT, gAll, dIsi, fIsi, isTy, refOk, dIsN, dNotN, dIsB, dNotB, isNon, isBl, sz_lt, sz_le, sRaise, sTry, collapse_const, endX, dXf, dXis, dBM, dBM0, fPop, fApp, fRevM, fIns, fPopAt, tTr, fTr, aStar, dSoSet, sRetN, fTuple, fAbs, tyD, *])
local macro_rules | `(tactic| walk_at "y") => `(tactic| simp [fnF_eq, sSeq, sSet, sRet, sIf, sDrop, sNil, sAsg, sPar, sPut, F.then_nx, F.then_rt, F.then_bk, F.then_ct, F.then_ex, F.then_bad, F.then_ite, R.lift_ok, R.lift_ex, R.lift_bad, R.lift_ite, R.bind_ok, R.bind_ex, R.bind_bad, R.bind_ite, F.fin_nx, F.fin_rt, F.fin_ex, F.fin_bad, F.fin_ite, dVar, dC, bin, un, dAnd, dOr, dNot, tB', tAnd', tOr', tNot', dIf, asB_bl, aNil, aCons, dTup, mkT, dLst, mkL, fIx, seqOf, lstOf, L2.atI, L2.ixN, fAdd, fPlus, dSl, oSome, oNone, asI, fSl, fInT, fStr, fIntT, fFmt, dFmt, dJs, fPart, fStarts, fFind, fIsdig, fIsasc, fMulS, fSub, fMul, fLt, fGt, fLe, fGe, fEq, fDiv, fMod, fNeg, fPow, arity, dCall, dCallY, dCallK, dCallX, dSoSetL, noEx, dCB, fGcd, fLen, fMax2, fMin2, fInt, sFor, iRng1, fRng1, iSeq, asSeq, iAny, asAny, dIsi, fIsi, isTy, refOk, dIsN, dNotN, dIsB, dNotB, isNon, isBl, sz_lt, sz_le, sRaise, sTry, collapse_const, endX, dXf, dXis, dBM, dBM0, fPop, fApp, fRevM, fIns, fPopAt, tTr, fTr, aStar, dSoSet, sRetN, fTuple, fAbs, tyD, *])
local macro_rules | `(tactic| walk_at "v") => `(tactic| simp [fnF_eq, sSeq, sSet, sRet, sIf, sDrop, sNil, sAsg, sPar, sPut, F.then_nx, F.then_rt, F.then_bk, F.then_ct, F.then_ex, F.then_bad, F.then_ite, R.lift_ok, R.lift_ex, R.lift_bad, R.lift_ite, R.bind_ok, R.bind_ex, R.bind_bad, R.bind_ite, F.fin_nx, F.fin_rt, F.fin_ex, F.fin_bad, F.fin_ite, dVar, dC, bin, un, dAnd, dOr, dNot, tB', tAnd', tOr', tNot', dIf, asB_bl, aNil, aCons, dTup, mkT, dLst, mkL, seqOf, lstOf, fAdd, fPlus, dSl, oSome, oNone, asI, fInT, fStr, fIntT, fFmt, dFmt, dJs, fPart, fStarts, fFind, fIsdig, fIsasc, fMulS, fSub, fLt, fGt, fLe, fGe, fEq, fMod, fNeg, fPow, arity, dCall, dCallY, dCallK, dCallX, dSoSetL, noEx, dCB, fGcd, fMax2, fMin2, fInt, gN, gT, gAll, dIsi, fIsi, isTy, refOk, dIsN, dNotN, dIsB, dNotB, isNon, isBl, sz_lt, sz_le, sRaise, sTry, collapse_const, endX, dXf, dXis, dBM, dBM0, tTr, fTr, aStar, sRetN, fAbs, *])
local macro_rules | `(tactic| walk_at "u") => `(tactic| simp [fnF_eq, sSeq, sSet, sRet, sIf, sDrop, sNil, sAsg, sPar, sPut, F.then_nx, F.then_rt, F.then_bk, F.then_ct, F.then_ex, F.then_bad, F.then_ite, R.lift_ok, R.lift_ex, R.lift_bad, R.lift_ite, R.bind_ok, R.bind_ex, R.bind_bad, R.bind_ite, F.fin_nx, F.fin_rt, F.fin_ex, F.fin_bad, F.fin_ite, dVar, dC, bin, un, dAnd, dOr, dNot, tB', tAnd', tOr', tNot', dIf, asB_bl, aNil, aCons, dTup, mkT, dLst, mkL, seqOf, lstOf, fAdd, fPlus, dSl, oSome, oNone, asI, fInT, fStr, fIntT, fFmt, dFmt, dJs, fPart, fStarts, fFind, fIsdig, fIsasc, fMulS, fSub, fLt, fGt, fLe, fGe, fEq, fMod, fNeg, fPow, arity, dCall, dCallY, dCallK, dCallX, dSoSetL, noEx, dCB, fGcd, fMax2, fMin2, fInt, dIsi, fIsi, isTy, refOk, dIsN, dNotN, dIsB, dNotB, isNon, isBl, sz_lt, sz_le, sRaise, sTry, collapse_const, endX, dXf, dXis, dBM, dBM0, tTr, fTr, aStar, sRetN, fAbs, sFor, iAny, iRng1, iEn, *])
local macro_rules | `(tactic| walk_at "t") => `(tactic| simp [fnF_eq, sSeq, sSet, sRet, sIf, sDrop, sNil, sAsg, sPar, sPut, F.then_nx, F.then_rt, F.then_bk, F.then_ct, F.then_ex, F.then_bad, F.then_ite, R.lift_ok, R.lift_ex, R.lift_bad, R.lift_ite, R.bind_ok, R.bind_ex, R.bind_bad, R.bind_ite, F.fin_nx, F.fin_rt, F.fin_ex, F.fin_bad, F.fin_ite, dVar, dC, bin, un, dAnd, dOr, dNot, tB', tAnd', tOr', tNot', dIf, asB_bl, aNil, aCons, dTup, mkT, dLst, mkL, seqOf, lstOf, fAdd, dSl, oSome, oNone, asI, fInT, fStr, fIntT, fFmt, dFmt, dJs, fPart, fStarts, fFind, fIsdig, fIsasc, fMulS, fSub, fLt, fGt, fLe, fGe, fEq, fMod, fNeg, fPow, arity, dCall, dCallY, dCallK, dCallX, dSoSetL, noEx, dCB, fGcd, fMax2, fMin2, fInt, dIsi, fIsi, isTy, refOk, dIsN, dNotN, dIsB, dNotB, isNon, isBl, sz_lt, sz_le, sRaise, sTry, collapse_const, endX, dXf, dXis, dBM, dBM0, tTr, fTr, aStar, sRetN, fAbs, sFor, iAny, iRng1, iEn, *])
namespace K03
abbrev Tr := Int × Int × Option (Int × Int)
def uT (t : Tr) : Int × Option Int := (Lo t.1 t.2.1, Up t.2.2)
/-- a span of the law -/
def IsT (t : Tr) : Prop := IsSp 99 t.1 t.2.1 t.2.2
theorem IsT.r (h : IsT t) : t.2.1 = 0 ∨ t.2.1 = 1 := h.rb
theorem IsT.s {t : Tr} (h : IsT t) : r01 t.2.2 := by
  have := h.hb
  cases e : t.2.2 with
  | none => trivial
  | some m => rw [e] at this; exact this.2.2.1
theorem spT_U {t : Tr} (h : IsT t) : spT t = spV (uT t) := sp_U h.r h.s
/-! ### the top -/
noncomputable def tB : SDen := (sSeq (sSet 1 (dCB fMax2 (aCons (dVar 1) (aCons (bin fIx (bin fIx (dVar 2) (dC (.int 0))) (dC (.int 0))) (aNil))))) (sIf (tB' (dNotN (bin fIx (dVar 2) (dC (.int 1))))) (sSet 1 (dCB fMax2 (aCons (dVar 1) (aCons (bin fIx (bin fIx (dVar 2) (dC (.int 1))) (dC (.int 0))) (aNil))))) (sNil)))
theorem top_def : F_law_top = fnF 3 (sSeq (sSet 1 (dC (.int 0))) (sSeq (sFor (iAny (dVar 0)) (gN 2) tB) (sRet (dVar 1)))) := rfl
def topT (t : Tr) (n : Int) : Prop := t.1 ≤ n ∧ ∀ m, t.2.2 = some m → m.1 ≤ n
theorem tB_eq {x : Option D} {k : Int} {t : Tr} {S : Sto} (H : IsT t) (h9 : k ≤ 99) : ∃ k', tB [x, some (.int k), some (spT t)] S = .nx [x, some (.int k'), some (spT t)] S ∧ k ≤ k' ∧ k' ≤ 99 ∧ topT t k' := by
  obtain ⟨l, r, h⟩ := t
  obtain ⟨l0, l9, rb, hb⟩ := H
  simp only at l0 l9 rb hb
  cases h with
  | none =>
    refine ⟨if l > k then l else k, ?_, by split <;> omega, by split <;> omega, ⟨by show l ≤ _; split <;> omega, fun m hm => by cases hm⟩⟩
    clear hb rb
    unfold spT sp hiD tB
    walk_at "z"
  | some m =>
    obtain ⟨m0, m9, _, _⟩ := hb
    have q : ∃ a : Int, (if k < l then l else k) = a ∧ k ≤ a ∧ l ≤ a ∧ a ≤ 99 := ⟨_, rfl, by split <;> omega, by split <;> omega, by split <;> omega⟩
    obtain ⟨a, ea, a1, a2, a3⟩ := q
    refine ⟨if a < m.1 then m.1 else a, ?_, by split <;> omega, by split <;> omega, ⟨by show l ≤ _; split <;> omega, fun m' hm => by cases hm; split <;> omega⟩⟩
    clear rb m0 m9 a1 a2 a3 l0 l9 h9
    unfold spT sp hiD tB
    subst ea
    walk_at "z"
theorem top_go {x : Option D} {g : Sto → Prop} {S : Sto} (hg : g S) : ∀ (ts : List Tr) (k : Int) (y : Option D), (∀ t ∈ ts, IsT t) → k ≤ 99 → ∃ k' y', forGo g (gN 2) tB (ts.map spT) [x, some (.int k), y] S = .nx [x, some (.int k'), y'] S ∧ k ≤ k' ∧ k' ≤ 99 ∧ ∀ t ∈ ts, topT t k'
  | [], k, y, _, h9 => ⟨k, y, forGo_nil hg, Int.le_refl _, h9, fun t ht => (List.not_mem_nil ht).elim⟩
  | t :: ts, k, y, hT, h9 => by
    obtain ⟨k1, e1, a1, b1, c1⟩ := tB_eq (x := x) (S := S) (hT t List.mem_cons_self) h9
    obtain ⟨k', y', e2, a2, b2, c2⟩ := top_go hg ts k1 (some (spT t)) (fun z hz => hT z (List.mem_cons_of_mem _ hz)) b1
    refine ⟨k', y', ?_, by omega, b2, fun z hz => ?_⟩
    · rw [List.map_cons, forGo, if_pos hg]
      have eg : (gN 2).run (spT t) [x, some (.int k), y] = some [x, some (.int k), some (spT t)] := rfl
      rw [eg]
      simp only [e1]
      exact e2
    · rcases List.mem_cons.mp hz with rfl | hz
      · exact ⟨Int.le_trans c1.1 a2, fun m hm => Int.le_trans (c1.2 m hm) a2⟩
      · exact c2 z hz
theorem top_eq {S : Sto} {x : D} {ts : List Tr} (R : Row S x (ts.map spT)) (hT : ∀ t ∈ ts, IsT t) : ∃ k, F_law_top [x] S = .ok (.int k) S ∧ 0 ≤ k ∧ k ≤ 99 ∧ ∀ t ∈ ts, topT t k := by
  have a0 := R.an []
  have s0 := R.st []
  rw [List.append_nil] at a0 s0
  obtain ⟨k, y, e, a, b, c⟩ := top_go (x := some x) s0 ts 0 none hT (by decide)
  refine ⟨k, ?_, a, b, c⟩
  rw [top_def]
  generalize tB = bb at *
  generalize gN 2 = gg at *
  generalize ts.map spT = L at *
  clear c a b hT R
  simp [fnF_eq, sSeq, sSet, sFor, iAny, dC, dVar, R.bind_ok, R.lift_ok, F.then_nx, a0, e, sRet, F.fin_rt]
/-! ### the hours -/
def sE (e : Int) : List Int := [if 0 < 2 * e - 1 then 2 * e - 1 else 0, 2 * e, 2 * e + 1]
def samp (t : Tr) : List Int := sE t.1 ++ (match t.2.2 with
  | none => []
  | some m => sE m.1)
noncomputable def jE : SDen := (sIf (tB' (dNotN (dVar 4))) (sSet 2 (bin fPlus (dVar 2) (dLst false (aCons (dCB fMax2 (aCons (dC (.int 0)) (aCons (bin fSub (bin fMul (dC (.int 2)) (bin fIx (dVar 4) (dC (.int 0)))) (dC (.int 1))) (aNil)))) (aCons (bin fMul (dC (.int 2)) (bin fIx (dVar 4) (dC (.int 0)))) (aCons (bin fPlus (bin fMul (dC (.int 2)) (bin fIx (dVar 4) (dC (.int 0)))) (dC (.int 1))) (aNil))))))) (sNil))
noncomputable def jA : SDen := (sFor (iAny (dVar 3)) (gN 4) jE)
abbrev lI (ns : List Int) : D := .lst (ns.map D.int)
theorem jE_eq {x l x3 : Option D} {tl : Env} {hs : List Int} {e r : Int} {S : Sto} (hl : hs.length ≤ 900) : jE (x :: l :: some (lI hs) :: x3 :: some (.tup [.int e, .int r]) :: tl) S = .nx (x :: l :: some (lI (hs ++ sE e)) :: x3 :: some (.tup [.int e, .int r]) :: tl) S := by
  have m1 : MulOk 2 e := .inl (.inl (by decide))
  have hf : Fit ((hs.map D.int).length + 3) := of_eq_true (sz_le (by rw [List.length_map]; omega))
  have e3 : (hs ++ sE e).map D.int = hs.map D.int ++ [D.int (if 0 < 2 * e - 1 then 2 * e - 1 else 0), .int (2 * e), .int (2 * e + 1)] := by
    rw [List.map_append]; rfl
  unfold lI
  rw [e3]
  generalize hs.map D.int = X at *
  clear e3
  unfold jE
  simp [sIf, sSet, sNil, tB', dNotN, isNon, asB_bl, dVar, dC, bin, fPlus, ownOf, mkL, dLst, aCons, aNil, dCB, fMax2, fSub, fMul, m1, fIx, seqOf, L2.atI, L2.ixN, R.bind_ok, R.lift_ok, sz_le, hf]
theorem jE_non {x l h x3 : Option D} {tl : Env} {S : Sto} : jE (x :: l :: h :: x3 :: some .non :: tl) S = .nx (x :: l :: h :: x3 :: some .non :: tl) S := by
  unfold jE
  simp [sIf, sNil, tB', dNotN, isNon, asB_bl, dVar, R.bind_ok, R.lift_ok]
theorem jA_eq {x l x4 : Option D} {tl : Env} {hs : List Int} {t : Tr} {S : Sto} (hl : hs.length ≤ 800) : ∃ x4', jA (x :: l :: some (lI hs) :: some (spT t) :: x4 :: tl) S = .nx (x :: l :: some (lI (hs ++ samp t)) :: some (spT t) :: x4' :: tl) S := by
  obtain ⟨a, r, h⟩ := t
  have eg : ∀ (d : D) (p q u w v : Option D), (gN 4).run d (p :: q :: u :: w :: v :: tl) = some (p :: q :: u :: w :: some d :: tl) := fun _ _ _ _ _ _ => rfl
  have e1 := jE_eq (x := x) (l := l) (x3 := some (spT (a, r, h))) (tl := tl) (hs := hs) (e := a) (r := r) (S := S) (by omega)
  have go : ∀ (b : D) (hs' : List Int), jE (x :: l :: some (lI (hs ++ sE a)) :: some (spT (a, r, h)) :: some b :: tl) S = .nx (x :: l :: some (lI hs') :: some (spT (a, r, h)) :: some b :: tl) S →
      forGo (fun _ => True) (gN 4) jE [.tup [.int a, .int r], b] (x :: l :: some (lI hs) :: some (spT (a, r, h)) :: x4 :: tl) S = .nx (x :: l :: some (lI hs') :: some (spT (a, r, h)) :: some b :: tl) S := fun b hs' e2 => by
    rw [forGo, if_pos trivial, eg]
    simp only [e1]
    rw [forGo, if_pos trivial, eg]
    simp only [e2]
    exact forGo_nil trivial
  have fin : ∀ (b : D) (hs' : List Int), spT (a, r, h) = .tup [.tup [.int a, .int r], b] → jE (x :: l :: some (lI (hs ++ sE a)) :: some (spT (a, r, h)) :: some b :: tl) S = .nx (x :: l :: some (lI hs') :: some (spT (a, r, h)) :: some b :: tl) S →
      jA (x :: l :: some (lI hs) :: some (spT (a, r, h)) :: x4 :: tl) S = .nx (x :: l :: some (lI hs') :: some (spT (a, r, h)) :: some b :: tl) S := fun b hs' es e2 => by
    have g := go b hs' e2
    unfold jA sFor iAny dVar
    simp only [List.getElem?_cons_succ, List.getElem?_cons_zero, R.bind_ok]
    have ea : asAny (spT (a, r, h)) S = .ok ([.tup [.int a, .int r], b], fun _ => True) S := by rw [es]; rfl
    rw [ea, R.lift_ok]
    exact g
  cases h with
  | none =>
    refine ⟨some .non, fin .non _ rfl ?_⟩
    have : samp (a, r, none) = sE a := by unfold samp; simp
    rw [this]
    exact jE_non
  | some m =>
    refine ⟨some (.tup [.int m.1, .int m.2]), fin _ _ rfl ?_⟩
    have : samp (a, r, some m) = sE a ++ sE m.1 := rfl
    rw [this, ← List.append_assoc]
    exact jE_eq (by rw [List.length_append]; simp [sE]; omega)
def samps (ts : List Tr) : List Int := ts.flatMap samp
theorem samp_len (t : Tr) : (samp t).length ≤ 6 := by
  obtain ⟨a, r, h⟩ := t
  cases h <;> simp [samp, sE]
theorem samps_len : ∀ ts : List Tr, (samps ts).length ≤ 6 * ts.length
  | [] => by simp [samps]
  | t :: ts => by
    have := samps_len ts
    have := samp_len t
    simp only [samps, List.flatMap_cons, List.length_append, List.length_cons] at *
    omega
theorem jA_go {x l : Option D} {tl : Env} {g : Sto → Prop} {S : Sto} (hg : g S) : ∀ (ts : List Tr) (hs : List Int) (x3 x4 : Option D), hs.length + 6 * ts.length ≤ 700 → ∃ x3' x4', forGo g (gN 3) jA (ts.map spT) (x :: l :: some (lI hs) :: x3 :: x4 :: tl) S = .nx (x :: l :: some (lI (hs ++ samps ts)) :: x3' :: x4' :: tl) S
  | [], hs, x3, x4, _ => ⟨x3, x4, by rw [List.map_nil, forGo_nil hg]; simp [samps]⟩
  | t :: ts, hs, x3, x4, hl => by
    obtain ⟨y4, e1⟩ := jA_eq (x := x) (l := l) (x4 := x4) (tl := tl) (hs := hs) (t := t) (S := S) (by simp only [List.length_cons] at hl; omega)
    have := samp_len t
    obtain ⟨x3', x4', e2⟩ := jA_go hg ts (hs ++ samp t) (some (spT t)) y4 (by simp only [List.length_cons, List.length_append] at hl ⊢; omega)
    refine ⟨x3', x4', ?_⟩
    have eg : (gN 3).run (spT t) (x :: l :: some (lI hs) :: x3 :: x4 :: tl) = some (x :: l :: some (lI hs) :: some (spT t) :: x4 :: tl) := rfl
    rw [List.map_cons, forGo, if_pos hg, eg]
    simp only [e1]
    rw [e2, List.append_assoc]
    rfl
/-- the hours, in their order, serve -/
theorem smp_of {ts : List Tr} {k : Int} (hT : ∀ t ∈ ts, IsT t) (k0 : 0 ≤ k) (hk : ∀ t ∈ ts, topT t k) : Smp (ts.map uT) (sset ([0, 2 * k + 3] ++ samps ts)) (2 * k + 3) := by
  have inE : ∀ (e : Int), 0 ≤ e → e ≤ k → ∀ z ∈ sE e, 0 ≤ z ∧ z ≤ 2 * k + 3 := fun e h0 h1 z hz => by
    simp only [sE, List.mem_cons, List.not_mem_nil, or_false] at hz
    rcases hz with rfl | rfl | rfl
    · split <;> omega
    · omega
    · omega
  have all : ∀ z ∈ [0, 2 * k + 3] ++ samps ts, 0 ≤ z ∧ z ≤ 2 * k + 3 := fun z hz => by
    rcases List.mem_append.mp hz with hz | hz
    · simp only [List.mem_cons, List.not_mem_nil, or_false] at hz
      rcases hz with rfl | rfl <;> omega
    · obtain ⟨t, ht, hz⟩ := List.mem_flatMap.mp hz
      have h1 := hT t ht
      have h2 := hk t ht
      rcases List.mem_append.mp hz with hz | hz
      · exact inE t.1 h1.l0 h2.1 z hz
      · cases e : t.2.2 with
        | none => rw [e] at hz; cases hz
        | some m =>
          rw [e] at hz
          have hb := h1.hb
          rw [e] at hb
          exact inE m.1 hb.1 (h2.2 m e) z hz
  have mem : ∀ {z}, z ∈ [0, 2 * k + 3] ++ samps ts → z ∈ sset ([0, 2 * k + 3] ++ samps ts) := fun h => sset_mem.mpr h
  have mem2 : ∀ {z} {t : Tr}, t ∈ ts → z ∈ samp t → z ∈ sset ([0, 2 * k + 3] ++ samps ts) := fun ht hz => mem (List.mem_append_right _ (List.mem_flatMap.mpr ⟨_, ht, hz⟩))
  refine ⟨sset_pw, mem (by simp), mem (by simp), fun z hz => (all z (sset_mem.mp hz)).1, fun z hz => (all z (sset_mem.mp hz)).2, fun u hu => ?_, fun u hu v hv => ?_⟩
  · obtain ⟨t, ht, rfl⟩ := List.mem_map.mp hu
    refine mem2 ht (List.mem_append_left _ ?_)
    have hr := (hT t ht).r
    show Lo t.1 t.2.1 ∈ sE t.1
    unfold Lo sE
    simp only [List.mem_cons, List.not_mem_nil, or_false]
    omega
  · obtain ⟨t, ht, rfl⟩ := List.mem_map.mp hu
    have h1 := hT t ht
    have h2 := hk t ht
    cases e : t.2.2 with
    | none => unfold uT at hv; rw [e] at hv; cases hv
    | some m =>
      have hb := h1.hb
      rw [e] at hb
      obtain ⟨m0, m9, mb, mo⟩ := hb
      have hr := h1.r
      have l0 := h1.l0
      have hm := h2.2 m e
      unfold uT at hv
      rw [e] at hv
      have ev : v = 2 * m.1 - 1 + m.2 := (Option.some.inj hv).symm
      refine ⟨mem2 ht (List.mem_append_right _ ?_), by omega, ?_⟩
      · rw [e]
        show v ∈ sE m.1
        unfold sE
        simp only [List.mem_cons, List.not_mem_nil, or_false]
        split <;> omega
      · show Lo t.1 t.2.1 ≤ v
        unfold Lo
        omega
end K03
end

section
set_option Elab.async false
set_option linter.all false
set_option maxRecDepth 100000
set_option maxHeartbeats 1000000
open Z
local macro_rules | `(tactic| walk_at "z") => `(tactic| simp [fnF_eq, sSeq, sSet, sRet, sIf, sDrop, sNil, sAsg, sPar, sPut, F.then_nx, F.then_rt, F.then_bk, F.then_ct, F.then_ex, F.then_bad, F.then_ite, R.lift_ok, R.lift_ex, R.lift_bad, R.lift_ite, R.bind_ok, R.bind_ex, R.bind_bad, R.bind_ite, F.fin_nx, F.fin_rt, F.fin_ex, F.fin_bad, F.fin_ite, dVar, dC, bin, un, dAnd, dOr, dNot, tB', tAnd', tOr', tNot', dIf, asB_bl, aNil, aCons, dTup, mkT, dLst, mkL, fIx, seqOf, lstOf, L2.atI, L2.ixN, fAdd, fPlus, dSl, oSome, oNone, asI, fSl, fInT, fStr, fIntT, fFmt, dFmt, dJs, fPart, fStarts, fFind, fIsdig, fIsasc, fMulS, fSub, fMul, fLt, fGt, fLe, fGe, fEq, fDiv, fMod, fNeg, fPow, arity, dCall, dCallY, dCallK, dCallX, dSoSetL, noEx, dCB, fGcd, fLen, fMax2, fMin2, fInt, gN, gT, gAll, dIsi, fIsi, isTy, refOk, dIsN, dNotN, dIsB, dNotB, isNon, isBl, sz_lt, sz_le, sRaise, sTry, collapse_const, endX, dXf, dXis, dBM, dBM0, fPop, fApp, fRevM, fIns, fPopAt, tTr, fTr, aStar, dSoSet, sRetN, fTuple, fAbs, tyD, *])
local macro_rules | `(tactic| walk_at "y") => `(tactic| simp [fnF_eq, sSeq, sSet, sRet, sIf, sDrop, sNil, sAsg, sPar, sPut, F.then_nx, F.then_rt, F.then_bk, F.then_ct, F.then_ex, F.then_bad, F.then_ite, R.lift_ok, R.lift_ex, R.lift_bad, R.lift_ite, R.bind_ok, R.bind_ex, R.bind_bad, R.bind_ite, F.fin_nx, F.fin_rt, F.fin_ex, F.fin_bad, F.fin_ite, dVar, dC, bin, un, dAnd, dOr, dNot, tB', tAnd', tOr', tNot', dIf, asB_bl, aNil, aCons, dTup, mkT, dLst, mkL, fIx, seqOf, lstOf, L2.atI, L2.ixN, fAdd, fPlus, dSl, oSome, oNone, asI, fSl, fInT, fStr, fIntT, fFmt, dFmt, dJs, fPart, fStarts, fFind, fIsdig, fIsasc, fMulS, fSub, fMul, fLt, fGt, fLe, fGe, fEq, fDiv, fMod, fNeg, fPow, arity, dCall, dCallY, dCallK, dCallX, dSoSetL, noEx, dCB, fGcd, fLen, fMax2, fMin2, fInt, sFor, iRng1, fRng1, iSeq, asSeq, iAny, asAny, dIsi, fIsi, isTy, refOk, dIsN, dNotN, dIsB, dNotB, isNon, isBl, sz_lt, sz_le, sRaise, sTry, collapse_const, endX, dXf, dXis, dBM, dBM0, fPop, fApp, fRevM, fIns, fPopAt, tTr, fTr, aStar, dSoSet, sRetN, fTuple, fAbs, tyD, *])
local macro_rules | `(tactic| walk_at "v") => `(tactic| simp [fnF_eq, sSeq, sSet, sRet, sIf, sDrop, sNil, sAsg, sPar, sPut, F.then_nx, F.then_rt, F.then_bk, F.then_ct, F.then_ex, F.then_bad, F.then_ite, R.lift_ok, R.lift_ex, R.lift_bad, R.lift_ite, R.bind_ok, R.bind_ex, R.bind_bad, R.bind_ite, F.fin_nx, F.fin_rt, F.fin_ex, F.fin_bad, F.fin_ite, dVar, dC, bin, un, dAnd, dOr, dNot, tB', tAnd', tOr', tNot', dIf, asB_bl, aNil, aCons, dTup, mkT, dLst, mkL, seqOf, lstOf, fAdd, fPlus, dSl, oSome, oNone, asI, fInT, fStr, fIntT, fFmt, dFmt, dJs, fPart, fStarts, fFind, fIsdig, fIsasc, fMulS, fSub, fLt, fGt, fLe, fGe, fEq, fMod, fNeg, fPow, arity, dCall, dCallY, dCallK, dCallX, dSoSetL, noEx, dCB, fGcd, fMax2, fMin2, fInt, gN, gT, gAll, dIsi, fIsi, isTy, refOk, dIsN, dNotN, dIsB, dNotB, isNon, isBl, sz_lt, sz_le, sRaise, sTry, collapse_const, endX, dXf, dXis, dBM, dBM0, tTr, fTr, aStar, sRetN, fAbs, *])
local macro_rules | `(tactic| walk_at "u") => `(tactic| simp [fnF_eq, sSeq, sSet, sRet, sIf, sDrop, sNil, sAsg, sPar, sPut, F.then_nx, F.then_rt, F.then_bk, F.then_ct, F.then_ex, F.then_bad, F.then_ite, R.lift_ok, R.lift_ex, R.lift_bad, R.lift_ite, R.bind_ok, R.bind_ex, R.bind_bad, R.bind_ite, F.fin_nx, F.fin_rt, F.fin_ex, F.fin_bad, F.fin_ite, dVar, dC, bin, un, dAnd, dOr, dNot, tB', tAnd', tOr', tNot', dIf, asB_bl, aNil, aCons, dTup, mkT, dLst, mkL, seqOf, lstOf, fAdd, fPlus, dSl, oSome, oNone, asI, fInT, fStr, fIntT, fFmt, dFmt, dJs, fPart, fStarts, fFind, fIsdig, fIsasc, fMulS, fSub, fLt, fGt, fLe, fGe, fEq, fMod, fNeg, fPow, arity, dCall, dCallY, dCallK, dCallX, dSoSetL, noEx, dCB, fGcd, fMax2, fMin2, fInt, dIsi, fIsi, isTy, refOk, dIsN, dNotN, dIsB, dNotB, isNon, isBl, sz_lt, sz_le, sRaise, sTry, collapse_const, endX, dXf, dXis, dBM, dBM0, tTr, fTr, aStar, sRetN, fAbs, sFor, iAny, iRng1, iEn, *])
local macro_rules | `(tactic| walk_at "t") => `(tactic| simp [fnF_eq, sSeq, sSet, sRet, sIf, sDrop, sNil, sAsg, sPar, sPut, F.then_nx, F.then_rt, F.then_bk, F.then_ct, F.then_ex, F.then_bad, F.then_ite, R.lift_ok, R.lift_ex, R.lift_bad, R.lift_ite, R.bind_ok, R.bind_ex, R.bind_bad, R.bind_ite, F.fin_nx, F.fin_rt, F.fin_ex, F.fin_bad, F.fin_ite, dVar, dC, bin, un, dAnd, dOr, dNot, tB', tAnd', tOr', tNot', dIf, asB_bl, aNil, aCons, dTup, mkT, dLst, mkL, seqOf, lstOf, fAdd, dSl, oSome, oNone, asI, fInT, fStr, fIntT, fFmt, dFmt, dJs, fPart, fStarts, fFind, fIsdig, fIsasc, fMulS, fSub, fLt, fGt, fLe, fGe, fEq, fMod, fNeg, fPow, arity, dCall, dCallY, dCallK, dCallX, dSoSetL, noEx, dCB, fGcd, fMax2, fMin2, fInt, dIsi, fIsi, isTy, refOk, dIsN, dNotN, dIsB, dNotB, isNon, isBl, sz_lt, sz_le, sRaise, sTry, collapse_const, endX, dXf, dXis, dBM, dBM0, tTr, fTr, aStar, sRetN, fAbs, sFor, iAny, iRng1, iEn, *])
namespace K03
theorem holds_U {t : Tr} (H : IsT t) (v : Int) (S : Sto) : F_law_holds [spT t, mo v 2] S = .ok (.bl (inU v (uT t))) S := by
  rw [show F_law_holds [spT t, mo v 2] S = _ from law_holds_eq (p := v) (q := 2) (S := S) H (by decide)]
  congr 2
  apply bl_iff
  rw [inB_iff]
  have hr := H.r
  have hs := H.s
  obtain ⟨l, r, h⟩ := t
  unfold InS inU uT Lo
  simp only [Bool.and_eq_true, decide_eq_true_eq] at *
  cases h with
  | none =>
    simp only [hiP, Up, leO, and_true]
    omega
  | some m =>
    have hs' : m.2 = 0 ∨ m.2 = 1 := hs
    simp only [hiP, Up, leO, decide_eq_true_eq]
    omega
section
variable {S : Sto} {A B : List D} {y : D}
abbrev S2 (S : Sto) (A B : List D) : Sto := S ++ [.lst A, .lst B]
theorem get_a : (S2 S A B)[S.length]? = some (.lst A) := by
  rw [List.getElem?_append_right (Nat.le_refl _)]; simp
theorem get_b : (S2 S A B)[S.length + 1]? = some (.lst B) := by
  rw [List.getElem?_append_right (Nat.le_succ _)]; simp
theorem app_a (h : A.length ≤ 900) : fApp (.ref S.length) [y] (S2 S A B) = .ok .non (S2 S (A ++ [y]) B) := by
  have hf : FitS A.length := of_eq_true (sz_lt (by omega))
  unfold fApp
  simp only [get_a, hf, if_true]
  congr 1
  rw [List.set_append_right _ _ (Nat.le_refl _)]
  simp
theorem app_b (h : B.length ≤ 900) : fApp (.ref (S.length + 1)) [y] (S2 S A B) = .ok .non (S2 S A (B ++ [y])) := by
  have hf : FitS B.length := of_eq_true (sz_lt (by omega))
  unfold fApp
  simp only [get_b, hf, if_true]
  congr 1
  rw [List.set_append_right _ _ (Nat.le_succ _)]
  simp
theorem ty_a : tyD .list (.ref S.length) (S2 S A B) = true := by simp only [tyD, lstOf, get_a, Option.isSome]
theorem ty_b : tyD .list (.ref (S.length + 1)) (S2 S A B) = true := by simp only [tyD, lstOf, get_b, Option.isSome]
end
noncomputable def cH : Den := dLc false (iAny (dVar 0)) [3] (gN 3) (tB' (dCall (arity 2 F_law_holds) [] (aCons (dVar 3) (aCons (dTup (aCons (dVar 7) (aCons (dC (.int 2)) (aNil)))) (aNil))))) (dVar 3)
noncomputable def jH : SDen := (sSeq (sSet 8 cH) (sSeq (sIf (tB' (bin (fEq false) (dCB fLen (aCons (dVar 8) (aNil))) (dCB fLen (aCons (dVar 0) (aNil))))) (sDrop (dBM .list fApp (dVar 5) (aCons (dVar 7) (aNil)))) (sNil)) (sIf (tB' (bin (fEq true) (dVar 8) (dLst false (aNil)))) (sDrop (dBM .list fApp (dVar 6) (aCons (dVar 7) (aNil)))) (sNil))))
theorem cH_go {a0 a1 a2 a4 a5 a6 : Option D} {v : Int} {tl : Env} {g : Sto → Prop} {S : Sto} (hg : g S) : ∀ (ts : List Tr) (acc : List D), (∀ t ∈ ts, IsT t) → acc.length + ts.length ≤ 900 →
    lcGo g (gN 3) (tB' (dCall (arity 2 F_law_holds) [] (aCons (dVar 3) (aCons (dTup (aCons (dVar 7) (aCons (dC (.int 2)) (aNil)))) (aNil))))) (dVar 3) (a0 :: a1 :: a2 :: none :: a4 :: a5 :: a6 :: some (.int v) :: tl) (ts.map spT) acc S = .ok (acc ++ (ts.filter fun t => inU v (uT t)).map spT) S
  | [], acc, _, _ => by rw [List.map_nil, lcGo, if_pos hg]; simp
  | t :: ts, acc, hT, hl => by
    have h1 := holds_U (hT t List.mem_cons_self) v S
    have eg : (gN 3).run (spT t) (a0 :: a1 :: a2 :: none :: a4 :: a5 :: a6 :: some (.int v) :: tl) = some (a0 :: a1 :: a2 :: some (spT t) :: a4 :: a5 :: a6 :: some (.int v) :: tl) := rfl
    have ec : (tB' (dCall (arity 2 F_law_holds) [] (aCons (dVar 3) (aCons (dTup (aCons (dVar 7) (aCons (dC (.int 2)) (aNil)))) (aNil))))) (a0 :: a1 :: a2 :: some (spT t) :: a4 :: a5 :: a6 :: some (.int v) :: tl) S = .ok (inU v (uT t)) S := by
      generalize spT t = X at *
      simp [tB', dCall, arity, aCons, aNil, dTup, mkT, dVar, dC, sz_le, R.bind_ok, h1, asB_bl]
    have ee : (dVar 3) (a0 :: a1 :: a2 :: some (spT t) :: a4 :: a5 :: a6 :: some (.int v) :: tl) S = .ok (spT t) S := rfl
    simp only [List.length_cons] at hl
    rw [List.map_cons, lcGo, if_pos hg, eg]
    cases hp : inU v (uT t) with
    | true =>
      rw [hp] at ec
      simp only [ec, ee, if_true]
      rw [if_pos (of_eq_true (sz_lt (by omega))), cH_go hg ts (acc ++ [spT t]) (fun z hz => hT z (List.mem_cons_of_mem _ hz)) (by simp only [List.length_append, List.length_cons, List.length_nil]; omega)]
      simp [hp]
    | false =>
      rw [hp] at ec
      simp only [ec]
      rw [if_neg (by simp), cH_go hg ts acc (fun z hz => hT z (List.mem_cons_of_mem _ hz)) (by omega)]
      simp [hp]
theorem cH_eq {x : D} {a1 a2 a3 a4 a5 a6 : Option D} {v : Int} {tl : Env} {S : Sto} {ts : List Tr} (Rw : Row S x (ts.map spT)) (hT : ∀ t ∈ ts, IsT t) (hl : ts.length ≤ 6) :
    cH (some x :: a1 :: a2 :: a3 :: a4 :: a5 :: a6 :: some (.int v) :: tl) S = .ok (.lst ((ts.filter fun t => inU v (uT t)).map spT)) S := by
  have a0 := Rw.an []
  have s0 := Rw.st []
  rw [List.append_nil] at a0 s0
  have e := cH_go (a0 := some x) (a1 := a1) (a2 := a2) (a4 := a4) (a5 := a5) (a6 := a6) (v := v) (tl := tl) s0 ts [] hT (by simp; omega)
  have ew : wipeE (some x :: a1 :: a2 :: a3 :: a4 :: a5 :: a6 :: some (.int v) :: tl) [3] = some x :: a1 :: a2 :: none :: a4 :: a5 :: a6 :: some (.int v) :: tl := rfl
  unfold cH dLc iAny dVar at *
  simp only [List.getElem?_cons_zero, R.bind_ok, a0, ew, e, List.nil_append]
  rfl
theorem jH_eq {x : D} {a1 a2 a3 a4 a8 : Option D} {v : Int} {tl : Env} {S : Sto} {ts : List Tr} {c s : List Int} (Rw : Row S x (ts.map spT)) (hT : ∀ t ∈ ts, IsT t) (hl : ts.length ≤ 6) (hc : c.length ≤ 900) (hs : s.length ≤ 900) :
    ∃ a8', jH (some x :: a1 :: a2 :: a3 :: a4 :: some (.ref S.length) :: some (.ref (S.length + 1)) :: some (.int v) :: a8 :: tl) (S2 S (c.map D.int) (s.map D.int)) =
      .nx (some x :: a1 :: a2 :: a3 :: a4 :: some (.ref S.length) :: some (.ref (S.length + 1)) :: some (.int v) :: a8' :: tl) (S2 S ((if (ts.map uT).all (inU v) = true then c ++ [v] else c).map D.int) ((if (ts.map uT).any (inU v) = true then s ++ [v] else s).map D.int)) := by
  have R2 := Rw.app [.lst (c.map D.int), .lst (s.map D.int)]
  have e1 : cH (some x :: a1 :: a2 :: a3 :: a4 :: some (.ref S.length) :: some (.ref (S.length + 1)) :: some (.int v) :: a8 :: tl) (S2 S (c.map D.int) (s.map D.int)) = .ok (.lst ((ts.filter fun t => inU v (uT t)).map spT)) (S2 S (c.map D.int) (s.map D.int)) := cH_eq R2 hT hl
  refine ⟨some (.lst ((ts.filter fun t => inU v (uT t)).map spT)), ?_⟩
  have l1 : ∀ E, fLen [.lst ((ts.filter fun t => inU v (uT t)).map spT)] E = .ok (.int (ts.filter fun t => inU v (uT t)).length) E := fun E => by
    have := len_row (S := E) (x := .lst ((ts.filter fun t => inU v (uT t)).map spT)) rfl
    rwa [List.length_map] at this
  have l2 : ∀ E, fLen [x] (S ++ E) = .ok (.int ts.length) (S ++ E) := fun E => by
    have := len_row (Rw.sq E)
    rwa [List.length_map] at this
  have l2' : fLen [x] (S2 S (c.map D.int) (s.map D.int)) = .ok (.int ts.length) (S2 S (c.map D.int) (s.map D.int)) := l2 _
  have n1 : ∀ E, fEq true (.lst ((ts.filter fun t => inU v (uT t)).map spT)) (.lst []) E = .ok (.bl (!(ts.filter fun t => inU v (uT t)).isEmpty)) E := fun E => sp_nil _ E
  have q1 : ((ts.filter fun t => inU v (uT t)).length : Int) = ts.length ↔ (ts.map uT).all (inU v) = true := by
    rw [List.all_map]
    have : ((ts.filter fun t => inU v (uT t)).length : Int) = ts.length ↔ (ts.filter fun t => inU v (uT t)).length = ts.length := by omega
    rw [this, List.length_filter_eq_length_iff, List.all_eq_true]
    rfl
  have q2 : (!(ts.filter fun t => inU v (uT t)).isEmpty) = (ts.map uT).any (inU v) := by
    rw [List.any_map]
    apply bl_iff
    rw [Bool.not_eq_true', List.isEmpty_eq_false_iff, ne_eq, List.filter_eq_nil_iff, List.any_eq_true]
    constructor
    · intro h
      exact Classical.byContradiction fun n => h fun t ht hp => n ⟨t, ht, hp⟩
    · rintro ⟨t, ht, hp⟩ h
      exact h t ht hp
  rw [q2] at n1
  clear q2 R2 Rw hT
  have aa := app_a (S := S) (A := c.map D.int) (B := s.map D.int) (y := .int v) (by rw [List.length_map]; omega)
  have ab := app_b (S := S) (A := c.map D.int) (B := s.map D.int) (y := .int v) (by rw [List.length_map]; omega)
  have ab2 := app_b (S := S) (A := c.map D.int ++ [.int v]) (B := s.map D.int) (y := .int v) (by rw [List.length_map]; omega)
  have ta := ty_a (S := S) (A := c.map D.int) (B := s.map D.int)
  have tb := ty_b (S := S) (A := c.map D.int) (B := s.map D.int)
  have tb2 := ty_b (S := S) (A := c.map D.int ++ [.int v]) (B := s.map D.int)
  have mc : (c ++ [v]).map D.int = c.map D.int ++ [.int v] := by simp
  have ms : (s ++ [v]).map D.int = s.map D.int ++ [.int v] := by simp
  generalize ((ts.filter fun t => inU v (uT t)).map spT) = HL at *
  generalize ((ts.filter fun t => inU v (uT t)).length) = hn at *
  generalize (ts.map uT).all (inU v) = ba at *
  generalize (ts.map uT).any (inU v) = bb at *
  generalize S.length = n at *
  cases ba
  · have q : ((hn : Int) = ts.length) = False := eq_false fun z => by have := q1.mp z; cases this
    have q3 : ∀ E, fEq false (.int hn) (.int ts.length) E = .ok (.bl false) E := fun E => by simp [fEq, q]
    clear q1 l2 q
    cases bb
    · simp only [Bool.false_eq_true, if_false]
      generalize S2 S (c.map D.int) (s.map D.int) = T at *
      unfold jH
      simp [sSeq, sSet, sIf, sNil, tB', bin, dCB, dVar, dLst, mkL, sz_le, aCons, aNil, asB_bl, R.bind_ok, R.lift_ok, F.then_nx, e1, l1, l2', n1, q3]
    · simp only [Bool.false_eq_true, if_false, if_true, ms]
      generalize S2 S (c.map D.int) (s.map D.int ++ [.int v]) = T' at *
      generalize S2 S (c.map D.int) (s.map D.int) = T at *
      unfold jH
      simp [sSeq, sSet, sIf, sNil, sDrop, tB', bin, dCB, dBM, dVar, dLst, mkL, sz_le, aCons, aNil, asB_bl, R.bind_ok, R.lift_ok, F.then_nx, e1, l1, l2', n1, q3, tb, ab]
  · have q : ((hn : Int) = ts.length) = True := eq_true (q1.mpr rfl)
    have q3 : ∀ E, fEq false (.int hn) (.int ts.length) E = .ok (.bl true) E := fun E => by simp [fEq, q]
    clear q1 l2 q
    cases bb
    · simp only [Bool.false_eq_true, if_false, if_true, mc]
      generalize S2 S (c.map D.int ++ [.int v]) (s.map D.int) = T' at *
      generalize S2 S (c.map D.int) (s.map D.int) = T at *
      unfold jH
      simp [sSeq, sSet, sIf, sNil, sDrop, tB', bin, dCB, dBM, dVar, dLst, mkL, sz_le, aCons, aNil, asB_bl, R.bind_ok, R.lift_ok, F.then_nx, e1, l1, l2', n1, q3, ta, aa]
    · simp only [if_true, mc, ms]
      generalize S2 S (c.map D.int ++ [.int v]) (s.map D.int ++ [.int v]) = T'' at *
      generalize S2 S (c.map D.int ++ [.int v]) (s.map D.int) = T' at *
      generalize S2 S (c.map D.int) (s.map D.int) = T at *
      unfold jH
      simp [sSeq, sSet, sIf, sNil, sDrop, tB', bin, dCB, dBM, dVar, dLst, mkL, sz_le, aCons, aNil, asB_bl, R.bind_ok, R.lift_ok, F.then_nx, e1, l1, l2', n1, q3, ta, aa, tb2, ab2]
theorem app_filter (p : Int → Bool) (c ys : List Int) (v : Int) : (if p v = true then c ++ [v] else c) ++ ys.filter p = c ++ (v :: ys).filter p := by
  cases hb : p v <;> simp [hb]
theorem jH_go {x : D} {a1 a2 a3 a4 : Option D} {tl : Env} {S : Sto} {ts : List Tr} (Rw : Row S x (ts.map spT)) (hT : ∀ t ∈ ts, IsT t) (hl : ts.length ≤ 6) : ∀ (ys c s : List Int) (a7 a8 : Option D), c.length + ys.length ≤ 900 → s.length + ys.length ≤ 900 → ∃ a7' a8',
    forGo (fun _ => True) (gN 7) jH (ys.map D.int) (some x :: a1 :: a2 :: a3 :: a4 :: some (.ref S.length) :: some (.ref (S.length + 1)) :: a7 :: a8 :: tl) (S2 S (c.map D.int) (s.map D.int)) =
      .nx (some x :: a1 :: a2 :: a3 :: a4 :: some (.ref S.length) :: some (.ref (S.length + 1)) :: a7' :: a8' :: tl) (S2 S ((c ++ ys.filter fun v => (ts.map uT).all (inU v)).map D.int) ((s ++ ys.filter fun v => (ts.map uT).any (inU v)).map D.int))
  | [], c, s, a7, a8, _, _ => ⟨a7, a8, by rw [List.map_nil, forGo_nil trivial]; simp⟩
  | v :: ys, c, s, a7, a8, h1, h2 => by
    simp only [List.length_cons] at h1 h2
    obtain ⟨b8, e1⟩ := jH_eq (a1 := a1) (a2 := a2) (a3 := a3) (a4 := a4) (a8 := a8) (v := v) (tl := tl) (c := c) (s := s) Rw hT hl (by omega) (by omega)
    obtain ⟨a7', a8', e2⟩ := jH_go (a1 := a1) (a2 := a2) (a3 := a3) (a4 := a4) (tl := tl) Rw hT hl ys (if (ts.map uT).all (inU v) = true then c ++ [v] else c) (if (ts.map uT).any (inU v) = true then s ++ [v] else s) (some (.int v)) b8
      (by split <;> first | omega | (simp only [List.length_append, List.length_cons, List.length_nil]; omega)) (by split <;> first | omega | (simp only [List.length_append, List.length_cons, List.length_nil]; omega))
    refine ⟨a7', a8', ?_⟩
    have eg : (gN 7).run (.int v) (some x :: a1 :: a2 :: a3 :: a4 :: some (.ref S.length) :: some (.ref (S.length + 1)) :: a7 :: a8 :: tl) = some (some x :: a1 :: a2 :: a3 :: a4 :: some (.ref S.length) :: some (.ref (S.length + 1)) :: some (.int v) :: a8 :: tl) := rfl
    rw [List.map_cons, forGo, if_pos trivial, eg]
    simp only [e1]
    rw [e2]
    have k1 : (if (ts.map uT).all (inU v) = true then c ++ [v] else c) ++ ys.filter (fun v => (ts.map uT).all (inU v)) = c ++ (v :: ys).filter (fun v => (ts.map uT).all (inU v)) := app_filter (fun v => (ts.map uT).all (inU v)) c ys v
    have k2 : (if (ts.map uT).any (inU v) = true then s ++ [v] else s) ++ ys.filter (fun v => (ts.map uT).any (inU v)) = s ++ (v :: ys).filter (fun v => (ts.map uT).any (inU v)) := app_filter (fun v => (ts.map uT).any (inU v)) s ys v
    rw [k1, k2]
theorem py_row {S : Sto} {n : Nat} {zs : List Int} (h : S[n]? = some (.lst (zs.map D.int))) : pyS S (.ref n) = some (.list (zs.map PySem.PyData.int)) := by
  simp only [pyS, h]
  rw [pyA_ints]; rfl
theorem eq_nil {S : Sto} {n : Nat} {zs : List Int} (h : S[n]? = some (.lst (zs.map D.int))) : fEq false (.ref n) (.lst []) S = .ok (.bl zs.isEmpty) S := by
  show eqN false (.ref n) (.lst []) S = _
  have e2 : pyS S (.lst []) = some (.list []) := by simp only [pyS]; rw [pyD, pyA]; rfl
  have s1 := shaped_ints zs
  have s2 : PySem.SeqAt.shaped (.list []) = true := shaped_ints []
  unfold eqN
  rw [py_row h, e2]
  simp only [s1, s2, and_self, if_true]
  cases zs <;> simp [PySem.PyData.eqv, PySem.PyData.eqvAll]
theorem hull_eq {S : Sto} {n : Nat} {zs : List Int} {last : Int} (h : S[n]? = some (.lst (zs.map D.int))) : F_law_hull [.ref n, .int last] S = .ok (hullD zs last) S := by
  have e0 := eq_nil h
  have sq : seqOf S (.ref n) = some (zs.map D.int) := by simp only [seqOf, h]
  cases zs with
  | nil =>
    simp only [List.isEmpty_nil] at e0
    clear h sq
    unfold F_law_hull
    generalize fEq = fe at *
    simp [fnF_eq, sSeq, sIf, sRet, tB', bin, dVar, dC, dLst, mkL, sz_le, aNil, asB_bl, R.bind_ok, R.lift_ok, F.then_rt, F.fin_rt, e0]
    rfl
  | cons z zs =>
    obtain ⟨w, hw⟩ : ∃ w, (z :: zs).getLast? = some w := ⟨_, List.getLast?_eq_some_getLast (by simp)⟩
    have i0 : fIx (.ref n) (.int 0) S = .ok (.int z) S := ix_row (k := 0) sq rfl
    have i1 : fIx (.ref n) (.int (-1)) S = .ok (.int w) S := by
      have a : L2.atI ((z :: zs).map D.int) (-1) = some (.int w) := by
        have e1 : ((z :: zs).map D.int)[zs.length]? = some (.int w) := by
          rw [List.getElem?_map]
          rw [List.getLast?_eq_getElem?] at hw
          have e2 : (z :: zs).length - 1 = zs.length := by simp
          rw [e2] at hw
          rw [hw]; rfl
        unfold L2.atI L2.ixN
        have h1 : (-1 : Int) < 0 := by decide
        have h2 : ((z :: zs).map D.int).length = zs.length + 1 := by simp
        rw [h2]
        have h3 : ((-1 : Int) + ((zs.length + 1 : Nat) : Int)) = (zs.length : Int) := by omega
        have h4 : (-1 + ((zs.length : Int) + 1)).toNat = zs.length := by omega
        have h5 : (1 : Int) ≤ (zs.length : Int) + 1 := by omega
        rw [List.map_cons] at e1
        simp [h4, h5]
        first | exact (List.getElem?_eq_some_iff.mp e1).2 | exact e1
      unfold fIx
      simp only [sq, a]
    have hh : hullD (z :: zs) last = spU z (if w = last then none else some w) := by
      unfold hullD
      rw [hw]
      rfl
    rw [hh]
    simp only [List.isEmpty_cons] at e0
    clear h sq hw hh
    have d2 : DivOk 2 := ⟨by decide, by decide⟩
    by_cases hl : w = last
    · rw [if_pos hl]
      have ed : spU z none = .tup [.tup [.int (z / 2), .int (1 - z % 2)], .non] := rfl
      have e3 : fEq false (.int w) (.int last) S = .ok (.bl true) S := by simp [fEq, hl]
      rw [ed]
      clear hl ed
      unfold F_law_hull
      generalize fEq = fe at *
      simp [fnF_eq, sSeq, sSet, sIf, sRet, sNil, tB', bin, un, fNeg, dVar, dC, dLst, dTup, mkT, mkL, sz_le, aCons, aNil, dCB, fIntT, fDiv, d2, fSub, fMod, asB_bl, R.bind_ok, R.lift_ok, F.then_rt, F.then_nx, F.fin_rt, e0, e3, i0, i1]
    · rw [if_neg hl]
      have ed : spU z (some w) = .tup [.tup [.int (z / 2), .int (1 - z % 2)], .tup [.int ((w + 1) / 2), .int (1 - w % 2)]] := rfl
      have e3 : fEq false (.int w) (.int last) S = .ok (.bl false) S := by simp [fEq, hl]
      rw [ed]
      clear hl ed
      unfold F_law_hull
      generalize fEq = fe at *
      simp [fnF_eq, sSeq, sSet, sIf, sRet, sNil, tB', bin, un, fNeg, dVar, dC, dLst, dTup, mkT, mkL, sz_le, aCons, aNil, dCB, fIntT, fDiv, d2, fSub, fMod, fPlus, asB_bl, R.bind_ok, R.lift_ok, F.then_rt, F.then_nx, F.fin_rt, e0, e3, i0, i1]
end K03
end

section
set_option Elab.async false
set_option linter.all false
set_option maxRecDepth 100000
set_option maxHeartbeats 1000000
open Z
local macro_rules | `(tactic| walk_at "z") => `(tactic| simp [fnF_eq, sSeq, sSet, sRet, sIf, sDrop, sNil, sAsg, sPar, sPut, F.then_nx, F.then_rt, F.then_bk, F.then_ct, F.then_ex, F.then_bad, F.then_ite, R.lift_ok, R.lift_ex, R.lift_bad, R.lift_ite, R.bind_ok, R.bind_ex, R.bind_bad, R.bind_ite, F.fin_nx, F.fin_rt, F.fin_ex, F.fin_bad, F.fin_ite, dVar, dC, bin, un, dAnd, dOr, dNot, tB', tAnd', tOr', tNot', dIf, asB_bl, aNil, aCons, dTup, mkT, dLst, mkL, fIx, seqOf, lstOf, L2.atI, L2.ixN, fAdd, fPlus, dSl, oSome, oNone, asI, fSl, fInT, fStr, fIntT, fFmt, dFmt, dJs, fPart, fStarts, fFind, fIsdig, fIsasc, fMulS, fSub, fMul, fLt, fGt, fLe, fGe, fEq, fDiv, fMod, fNeg, fPow, arity, dCall, dCallY, dCallK, dCallX, dSoSetL, noEx, dCB, fGcd, fLen, fMax2, fMin2, fInt, gN, gT, gAll, dIsi, fIsi, isTy, refOk, dIsN, dNotN, dIsB, dNotB, isNon, isBl, sz_lt, sz_le, sRaise, sTry, collapse_const, endX, dXf, dXis, dBM, dBM0, fPop, fApp, fRevM, fIns, fPopAt, tTr, fTr, aStar, dSoSet, sRetN, fTuple, fAbs, tyD, *])
local macro_rules | `(tactic| walk_at "y") => `(tactic| simp [fnF_eq, sSeq, sSet, sRet, sIf, sDrop, sNil, sAsg, sPar, sPut, F.then_nx, F.then_rt, F.then_bk, F.then_ct, F.then_ex, F.then_bad, F.then_ite, R.lift_ok, R.lift_ex, R.lift_bad, R.lift_ite, R.bind_ok, R.bind_ex, R.bind_bad, R.bind_ite, F.fin_nx, F.fin_rt, F.fin_ex, F.fin_bad, F.fin_ite, dVar, dC, bin, un, dAnd, dOr, dNot, tB', tAnd', tOr', tNot', dIf, asB_bl, aNil, aCons, dTup, mkT, dLst, mkL, fIx, seqOf, lstOf, L2.atI, L2.ixN, fAdd, fPlus, dSl, oSome, oNone, asI, fSl, fInT, fStr, fIntT, fFmt, dFmt, dJs, fPart, fStarts, fFind, fIsdig, fIsasc, fMulS, fSub, fMul, fLt, fGt, fLe, fGe, fEq, fDiv, fMod, fNeg, fPow, arity, dCall, dCallY, dCallK, dCallX, dSoSetL, noEx, dCB, fGcd, fLen, fMax2, fMin2, fInt, sFor, iRng1, fRng1, iSeq, asSeq, iAny, asAny, dIsi, fIsi, isTy, refOk, dIsN, dNotN, dIsB, dNotB, isNon, isBl, sz_lt, sz_le, sRaise, sTry, collapse_const, endX, dXf, dXis, dBM, dBM0, fPop, fApp, fRevM, fIns, fPopAt, tTr, fTr, aStar, dSoSet, sRetN, fTuple, fAbs, tyD, *])
local macro_rules | `(tactic| walk_at "v") => `(tactic| simp [fnF_eq, sSeq, sSet, sRet, sIf, sDrop, sNil, sAsg, sPar, sPut, F.then_nx, F.then_rt, F.then_bk, F.then_ct, F.then_ex, F.then_bad, F.then_ite, R.lift_ok, R.lift_ex, R.lift_bad, R.lift_ite, R.bind_ok, R.bind_ex, R.bind_bad, R.bind_ite, F.fin_nx, F.fin_rt, F.fin_ex, F.fin_bad, F.fin_ite, dVar, dC, bin, un, dAnd, dOr, dNot, tB', tAnd', tOr', tNot', dIf, asB_bl, aNil, aCons, dTup, mkT, dLst, mkL, seqOf, lstOf, fAdd, fPlus, dSl, oSome, oNone, asI, fInT, fStr, fIntT, fFmt, dFmt, dJs, fPart, fStarts, fFind, fIsdig, fIsasc, fMulS, fSub, fLt, fGt, fLe, fGe, fEq, fMod, fNeg, fPow, arity, dCall, dCallY, dCallK, dCallX, dSoSetL, noEx, dCB, fGcd, fMax2, fMin2, fInt, gN, gT, gAll, dIsi, fIsi, isTy, refOk, dIsN, dNotN, dIsB, dNotB, isNon, isBl, sz_lt, sz_le, sRaise, sTry, collapse_const, endX, dXf, dXis, dBM, dBM0, tTr, fTr, aStar, sRetN, fAbs, *])
local macro_rules | `(tactic| walk_at "u") => `(tactic| simp [fnF_eq, sSeq, sSet, sRet, sIf, sDrop, sNil, sAsg, sPar, sPut, F.then_nx, F.then_rt, F.then_bk, F.then_ct, F.then_ex, F.then_bad, F.then_ite, R.lift_ok, R.lift_ex, R.lift_bad, R.lift_ite, R.bind_ok, R.bind_ex, R.bind_bad, R.bind_ite, F.fin_nx, F.fin_rt, F.fin_ex, F.fin_bad, F.fin_ite, dVar, dC, bin, un, dAnd, dOr, dNot, tB', tAnd', tOr', tNot', dIf, asB_bl, aNil, aCons, dTup, mkT, dLst, mkL, seqOf, lstOf, fAdd, fPlus, dSl, oSome, oNone, asI, fInT, fStr, fIntT, fFmt, dFmt, dJs, fPart, fStarts, fFind, fIsdig, fIsasc, fMulS, fSub, fLt, fGt, fLe, fGe, fEq, fMod, fNeg, fPow, arity, dCall, dCallY, dCallK, dCallX, dSoSetL, noEx, dCB, fGcd, fMax2, fMin2, fInt, dIsi, fIsi, isTy, refOk, dIsN, dNotN, dIsB, dNotB, isNon, isBl, sz_lt, sz_le, sRaise, sTry, collapse_const, endX, dXf, dXis, dBM, dBM0, tTr, fTr, aStar, sRetN, fAbs, sFor, iAny, iRng1, iEn, *])
local macro_rules | `(tactic| walk_at "t") => `(tactic| simp [fnF_eq, sSeq, sSet, sRet, sIf, sDrop, sNil, sAsg, sPar, sPut, F.then_nx, F.then_rt, F.then_bk, F.then_ct, F.then_ex, F.then_bad, F.then_ite, R.lift_ok, R.lift_ex, R.lift_bad, R.lift_ite, R.bind_ok, R.bind_ex, R.bind_bad, R.bind_ite, F.fin_nx, F.fin_rt, F.fin_ex, F.fin_bad, F.fin_ite, dVar, dC, bin, un, dAnd, dOr, dNot, tB', tAnd', tOr', tNot', dIf, asB_bl, aNil, aCons, dTup, mkT, dLst, mkL, seqOf, lstOf, fAdd, dSl, oSome, oNone, asI, fInT, fStr, fIntT, fFmt, dFmt, dJs, fPart, fStarts, fFind, fIsdig, fIsasc, fMulS, fSub, fLt, fGt, fLe, fGe, fEq, fMod, fNeg, fPow, arity, dCall, dCallY, dCallK, dCallX, dSoSetL, noEx, dCB, fGcd, fMax2, fMin2, fInt, dIsi, fIsi, isTy, refOk, dIsN, dNotN, dIsB, dNotB, isNon, isBl, sz_lt, sz_le, sRaise, sTry, collapse_const, endX, dXf, dXis, dBM, dBM0, tTr, fTr, aStar, sRetN, fAbs, sFor, iAny, iRng1, iEn, *])
namespace K03
theorem insS_len (k : Int) : ∀ xs : List Int, (insS k xs).length ≤ xs.length + 1
  | [] => by simp [insS]
  | x :: xs => by
    have := insS_len k xs
    unfold insS
    split
    · simp
    · split
      · simp
      · simp only [List.length_cons]; omega
theorem sset_len : ∀ ns : List Int, (sset ns).length ≤ ns.length
  | [] => by simp [sset]
  | n :: ns => by
    have := sset_len ns
    have h := insS_len n (sset ns)
    have e : sset (n :: ns) = insS n (sset ns) := rfl
    rw [e, List.length_cons]
    omega
noncomputable def jT : SDen := (sSeq (sSet 9 (dCall (arity 2 F_law_hull) [] (aCons (dVar 5) (aCons (dVar 1) (aNil))))) (sSeq (sSet 10 (dCall (arity 2 F_law_hull) [] (aCons (dVar 6) (aCons (dVar 1) (aNil))))) (sSeq (sSet 11 (dRevL false (dVar 0))) (sSeq (sIf (tOr' (tNot' (tB' (dCall (arity 2 (F_law_same 6)) [] (aCons (dCall (arity 1 F_law_met) [] (aCons (dVar 0) (aNil))) (aCons (dVar 9) (aNil)))))) (tNot' (tB' (dCall (arity 2 (F_law_same 6)) [] (aCons (dCall (arity 1 F_law_met) [] (aCons (dVar 11) (aNil))) (aCons (dVar 9) (aNil))))))) (sRet (dC (.bl false))) (sNil)) (sRet (dAnd (dCall (arity 2 (F_law_same 6)) [] (aCons (dCall (arity 1 F_law_covered) [] (aCons (dVar 0) (aNil))) (aCons (dVar 10) (aNil)))) (dCall (arity 2 (F_law_same 6)) [] (aCons (dCall (arity 1 F_law_covered) [] (aCons (dVar 11) (aNil))) (aCons (dVar 10) (aNil))))))))))
theorem joins_def : F_law_joins_hold = fnF 12 (sSeq (sSet 1 (bin fPlus (bin fMul (dC (.int 2)) (dCall (arity 1 F_law_top) [] (aCons (dVar 0) (aNil)))) (dC (.int 3)))) (sSeq (sSet 2 (dLst false (aCons (dC (.int 0)) (aCons (dVar 1) (aNil))))) (sSeq (sFor (iAny (dVar 0)) (gN 3) jA) (sSeq (sSet 5 (dLst true (aNil))) (sSeq (sSet 6 (dLst true (aNil))) (sSeq (sFor (iAny (dSoSetL (dVar 2))) (gN 7) jH) jT)))))) := rfl
theorem flat_sp (x : Int) (u : Option Int) : flatD' 5 (spU x u) = true := by cases u <;> rfl
theorem flat_hull (zs : List Int) (last : Int) : flatD' 5 (hullD zs last) = true := by
  unfold hullD
  split
  · exact flat_sp _ _
  · rfl
theorem Smp.rev {ts : List Tr} {xs : List Int} {last : Int} (h : Smp (ts.map uT) xs last) : Smp (ts.reverse.map uT) xs last := by
  have mem : ∀ t, t ∈ ts.reverse.map uT ↔ t ∈ ts.map uT := fun t => by simp
  exact ⟨h.pw, h.z0, h.zl, h.ge, h.le, fun t ht => h.lo t ((mem t).mp ht), fun t ht => h.up t ((mem t).mp ht)⟩
theorem map_U {ts : List Tr} (hT : ∀ t ∈ ts, IsT t) : ts.map spT = (ts.map uT).map spV := by
  rw [List.map_map]
  exact List.map_congr_left fun t ht => spT_U (hT t ht)
theorem met_row {ts : List Tr} {xs : List Int} {last : Int} {T : Sto} {x : D} (hT : ∀ t ∈ ts, IsT t) (hl : ts.length ≤ 5) (h : Smp (ts.map uT) xs last) (hx : seqOf T x = some (ts.map spT)) :
    F_law_met [x] T = .ok (hullD (xs.filter fun v => (ts.map uT).all (inU v)) last) T := by
  refine met_eq hx (by rw [List.length_map]; exact hl) ?_
  rw [map_U hT, meet_eq (ts.map uT) (by rw [List.length_map]; omega), hull_meet h]
theorem cov_row {ts : List Tr} {xs : List Int} {last : Int} {T : Sto} {x : D} (hT : ∀ t ∈ ts, IsT t) (hl : ts.length ≤ 5) (h : Smp (ts.map uT) xs last) (hx : seqOf T x = some (ts.map spT)) :
    F_law_covered [x] T = .ok (hullD (xs.filter fun v => (ts.map uT).any (inU v)) last) T := by
  refine covered_eq hx (by rw [List.length_map]; exact hl) ?_
  by_cases hn : ts = []
  · subst hn
    have : xs.filter (fun v => (([] : List Tr).map uT).any (inU v)) = [] := List.filter_eq_nil_iff.mpr fun v _ => by simp
    rw [this]
    exact cover_nil T
  · rw [map_U hT]
    obtain ⟨z, u, e, c⟩ := cover_eq (ts.map uT) (by simpa using hn) (by rw [List.length_map]; omega) T
    rw [e, hull_cov h c]
theorem jT_eq {x : D} {a2 a3 a4 a7 a8 a9 a10 a11 : Option D} {last : Int} {S : Sto} {ts : List Tr} {xs : List Int} (Rw : Row S x (ts.map spT)) (hT : ∀ t ∈ ts, IsT t) (hl : ts.length ≤ 5) (h : Smp (ts.map uT) xs last) {c s : List Int}
    (hc : c = xs.filter fun v => (ts.map uT).all (inU v)) (hs : s = xs.filter fun v => (ts.map uT).any (inU v)) :
    jT [some x, some (.int last), a2, a3, a4, some (.ref S.length), some (.ref (S.length + 1)), a7, a8, a9, a10, a11] (S2 S (c.map D.int) (s.map D.int)) = .rt (.bl true) (S2 S (c.map D.int) (s.map D.int)) := by
  have h5 := hull_eq (S := S2 S (c.map D.int) (s.map D.int)) (n := S.length) (zs := c) (last := last) get_a
  have h6 := hull_eq (S := S2 S (c.map D.int) (s.map D.int)) (n := S.length + 1) (zs := s) (last := last) get_b
  have R2 : Row (S2 S (c.map D.int) (s.map D.int)) x (ts.map spT) := Rw.app _
  have ls := R2.ls []
  rw [List.append_nil] at ls
  have m1 := met_row hT hl h R2.sq0
  have c1 := cov_row hT hl h R2.sq0
  have hT2 : ∀ t ∈ ts.reverse, IsT t := fun t ht => hT t (List.mem_reverse.mp ht)
  have rx : seqOf (S2 S (c.map D.int) (s.map D.int)) (.lst (ts.map spT).reverse) = some (ts.reverse.map spT) := by
    show some (ts.map spT).reverse = _
    rw [List.map_reverse]
  have m2 := met_row hT2 (by rw [List.length_reverse]; exact hl) h.rev rx
  have c2 := cov_row hT2 (by rw [List.length_reverse]; exact hl) h.rev rx
  have ra : ∀ v, (ts.reverse.map uT).all (inU v) = (ts.map uT).all (inU v) := fun v => by rw [List.map_reverse, List.all_reverse]
  have rb : ∀ v, (ts.reverse.map uT).any (inU v) = (ts.map uT).any (inU v) := fun v => by rw [List.map_reverse, List.any_reverse]
  simp only [ra, ← hc] at m1 m2
  simp only [rb, ← hs] at c1 c2
  have sm : F_law_same 6 [hullD c last, hullD c last] (S2 S (c.map D.int) (s.map D.int)) = _ := same_eq 5 (hullD c last) (S2 S (c.map D.int) (s.map D.int)) (flat_hull _ _)
  have sc : F_law_same 6 [hullD s last, hullD s last] (S2 S (c.map D.int) (s.map D.int)) = _ := same_eq 5 (hullD s last) (S2 S (c.map D.int) (s.map D.int)) (flat_hull _ _)
  have hf : Fit (ts.map spT).length := of_eq_true (sz_le (by rw [List.length_map]; omega))
  clear ra rb hT2 rx R2 h hT Rw hc hs
  generalize hullD c last = M at *
  generalize hullD s last = C at *
  generalize S2 S (c.map D.int) (s.map D.int) = T at *
  generalize ts.map spT = L at *
  generalize S.length = n at *
  unfold jT
  simp [sSeq, sSet, sIf, sNil, sRet, tOr', tNot', tB', dAnd, dCall, arity, aCons, aNil, dVar, dC, dRevL, mkL, hf, ls, asB_bl, R.bind_ok, R.lift_ok, F.then_nx, h5, h6, m1, m2, c1, c2, sm, sc]
theorem joins_eq {S : Sto} {x : D} {ts : List Tr} (Rw : Row S x (ts.map spT)) (hT : ∀ t ∈ ts, IsT t) (hl : ts.length ≤ 5) : ∃ A B, F_law_joins_hold [x] S = .ok (.bl true) (S2 S A B) := by
  obtain ⟨k, et, k0, k9, hk⟩ := top_eq Rw hT
  have sp := smp_of hT k0 hk
  have a0 := Rw.an []
  have s0 := Rw.st []
  rw [List.append_nil] at a0 s0
  have hsl := samps_len ts
  obtain ⟨x3, x4, e3⟩ := jA_go (x := some x) (l := some (.int (2 * k + 3))) (tl := [none, none, none, none, none, none, none]) s0 ts [0, 2 * k + 3] none none (by simp; omega)
  have hlen : (([0, 2 * k + 3] : List Int) ++ samps ts).length < 60 := by simp; omega
  have sl := sset_len ([0, 2 * k + 3] ++ samps ts)
  obtain ⟨x7, x8, e7⟩ := jH_go (a1 := some (.int (2 * k + 3))) (a2 := some (lI ([0, 2 * k + 3] ++ samps ts))) (a3 := x3) (a4 := x4) (tl := [none, none, none]) Rw hT (by omega) (sset ([0, 2 * k + 3] ++ samps ts)) [] [] none none (by simp only [List.length_nil]; omega) (by simp only [List.length_nil]; omega)
  simp only [List.nil_append] at e7
  have eT := jT_eq (a2 := some (lI ([0, 2 * k + 3] ++ samps ts))) (a3 := x3) (a4 := x4) (a7 := x7) (a8 := x8) (a9 := none) (a10 := none) (a11 := none) Rw hT hl sp rfl rfl
  have eS : ∀ env, env[2]? = some (some (lI ([0, 2 * k + 3] ++ samps ts))) → ∀ E, dSoSetL (dVar 2) env E = .ok (.lst ((sset ([0, 2 * k + 3] ++ samps ts)).map D.int)) E := fun env he E => by
    unfold dSoSetL dVar
    simp only [he, R.bind_ok, lstOf, intsD_map, hlen, if_true]
  have m1 : MulOk 2 k := .inl (.inl (by decide))
  refine ⟨((sset ([0, 2 * k + 3] ++ samps ts)).filter fun v => (ts.map uT).all (inU v)).map D.int, ((sset ([0, 2 * k + 3] ++ samps ts)).filter fun v => (ts.map uT).any (inU v)).map D.int, ?_⟩
  · rw [joins_def]
    have e2 : S ++ [Cell.lst []] ++ [Cell.lst []] = S2 S (([] : List Int).map D.int) (([] : List Int).map D.int) := by simp [S2]
    have e4 : (S ++ [Cell.lst []]).length = S.length + 1 := by simp
    generalize sset ([0, 2 * k + 3] ++ samps ts) = ys at *
    generalize jA = ja at *
    generalize jH = jh at *
    generalize jT = jt at *
    generalize lI ([0, 2 * k + 3] ++ samps ts) = HL at *
    have e0 : lI [0, 2 * k + 3] = .lst [.int 0, .int (2 * k + 3)] := rfl
    rw [e0] at e3
    generalize dSoSetL (dVar 2) = ds at *
    generalize ts.map spT = L at *
    generalize gN 3 = g3 at *
    generalize gN 7 = g7 at *
    clear sl hlen hsl sp hk k9 k0 hT Rw s0 hl
    simp only [List.map_nil] at e2 e7
    generalize ((ys.filter fun v => (ts.map uT).all (inU v)).map D.int) = PA at *
    generalize ((ys.filter fun v => (ts.map uT).any (inU v)).map D.int) = PB at *
    have ea : ∀ T, asAny (.lst (ys.map D.int)) T = .ok (ys.map D.int, fun _ => True) T := fun _ => rfl
    simp [fnF_eq, sSeq, sSet, sFor, iAny, bin, fMul, m1, fPlus, dC, dVar, dCall, arity, aCons, aNil, dLst, mkL, sz_le, R.bind_ok, R.lift_ok, F.then_nx, et, a0, e3, eS, e2, e4, ea, e7, eT, F.fin_rt]
end K03
end

section
set_option Elab.async false
set_option linter.all false
set_option maxRecDepth 100000
set_option maxHeartbeats 1000000
open Z
local macro_rules | `(tactic| walk_at "z") => `(tactic| simp [fnF_eq, sSeq, sSet, sRet, sIf, sDrop, sNil, sAsg, sPar, sPut, F.then_nx, F.then_rt, F.then_bk, F.then_ct, F.then_ex, F.then_bad, F.then_ite, R.lift_ok, R.lift_ex, R.lift_bad, R.lift_ite, R.bind_ok, R.bind_ex, R.bind_bad, R.bind_ite, F.fin_nx, F.fin_rt, F.fin_ex, F.fin_bad, F.fin_ite, dVar, dC, bin, un, dAnd, dOr, dNot, tB', tAnd', tOr', tNot', dIf, asB_bl, aNil, aCons, dTup, mkT, dLst, mkL, fIx, seqOf, lstOf, L2.atI, L2.ixN, fAdd, fPlus, dSl, oSome, oNone, asI, fSl, fInT, fStr, fIntT, fFmt, dFmt, dJs, fPart, fStarts, fFind, fIsdig, fIsasc, fMulS, fSub, fMul, fLt, fGt, fLe, fGe, fEq, fDiv, fMod, fNeg, fPow, arity, dCall, dCallY, dCallK, dCallX, dSoSetL, noEx, dCB, fGcd, fLen, fMax2, fMin2, fInt, gN, gT, gAll, dIsi, fIsi, isTy, refOk, dIsN, dNotN, dIsB, dNotB, isNon, isBl, sz_lt, sz_le, sRaise, sTry, collapse_const, endX, dXf, dXis, dBM, dBM0, fPop, fApp, fRevM, fIns, fPopAt, tTr, fTr, aStar, dSoSet, sRetN, fTuple, fAbs, tyD, *])
local macro_rules | `(tactic| walk_at "y") => `(tactic| simp [fnF_eq, sSeq, sSet, sRet, sIf, sDrop, sNil, sAsg, sPar, sPut, F.then_nx, F.then_rt, F.then_bk, F.then_ct, F.then_ex, F.then_bad, F.then_ite, R.lift_ok, R.lift_ex, R.lift_bad, R.lift_ite, R.bind_ok, R.bind_ex, R.bind_bad, R.bind_ite, F.fin_nx, F.fin_rt, F.fin_ex, F.fin_bad, F.fin_ite, dVar, dC, bin, un, dAnd, dOr, dNot, tB', tAnd', tOr', tNot', dIf, asB_bl, aNil, aCons, dTup, mkT, dLst, mkL, fIx, seqOf, lstOf, L2.atI, L2.ixN, fAdd, fPlus, dSl, oSome, oNone, asI, fSl, fInT, fStr, fIntT, fFmt, dFmt, dJs, fPart, fStarts, fFind, fIsdig, fIsasc, fMulS, fSub, fMul, fLt, fGt, fLe, fGe, fEq, fDiv, fMod, fNeg, fPow, arity, dCall, dCallY, dCallK, dCallX, dSoSetL, noEx, dCB, fGcd, fLen, fMax2, fMin2, fInt, sFor, iRng1, fRng1, iSeq, asSeq, iAny, asAny, dIsi, fIsi, isTy, refOk, dIsN, dNotN, dIsB, dNotB, isNon, isBl, sz_lt, sz_le, sRaise, sTry, collapse_const, endX, dXf, dXis, dBM, dBM0, fPop, fApp, fRevM, fIns, fPopAt, tTr, fTr, aStar, dSoSet, sRetN, fTuple, fAbs, tyD, *])
local macro_rules | `(tactic| walk_at "v") => `(tactic| simp [fnF_eq, sSeq, sSet, sRet, sIf, sDrop, sNil, sAsg, sPar, sPut, F.then_nx, F.then_rt, F.then_bk, F.then_ct, F.then_ex, F.then_bad, F.then_ite, R.lift_ok, R.lift_ex, R.lift_bad, R.lift_ite, R.bind_ok, R.bind_ex, R.bind_bad, R.bind_ite, F.fin_nx, F.fin_rt, F.fin_ex, F.fin_bad, F.fin_ite, dVar, dC, bin, un, dAnd, dOr, dNot, tB', tAnd', tOr', tNot', dIf, asB_bl, aNil, aCons, dTup, mkT, dLst, mkL, seqOf, lstOf, fAdd, fPlus, dSl, oSome, oNone, asI, fInT, fStr, fIntT, fFmt, dFmt, dJs, fPart, fStarts, fFind, fIsdig, fIsasc, fMulS, fSub, fLt, fGt, fLe, fGe, fEq, fMod, fNeg, fPow, arity, dCall, dCallY, dCallK, dCallX, dSoSetL, noEx, dCB, fGcd, fMax2, fMin2, fInt, gN, gT, gAll, dIsi, fIsi, isTy, refOk, dIsN, dNotN, dIsB, dNotB, isNon, isBl, sz_lt, sz_le, sRaise, sTry, collapse_const, endX, dXf, dXis, dBM, dBM0, tTr, fTr, aStar, sRetN, fAbs, *])
local macro_rules | `(tactic| walk_at "u") => `(tactic| simp [fnF_eq, sSeq, sSet, sRet, sIf, sDrop, sNil, sAsg, sPar, sPut, F.then_nx, F.then_rt, F.then_bk, F.then_ct, F.then_ex, F.then_bad, F.then_ite, R.lift_ok, R.lift_ex, R.lift_bad, R.lift_ite, R.bind_ok, R.bind_ex, R.bind_bad, R.bind_ite, F.fin_nx, F.fin_rt, F.fin_ex, F.fin_bad, F.fin_ite, dVar, dC, bin, un, dAnd, dOr, dNot, tB', tAnd', tOr', tNot', dIf, asB_bl, aNil, aCons, dTup, mkT, dLst, mkL, seqOf, lstOf, fAdd, fPlus, dSl, oSome, oNone, asI, fInT, fStr, fIntT, fFmt, dFmt, dJs, fPart, fStarts, fFind, fIsdig, fIsasc, fMulS, fSub, fLt, fGt, fLe, fGe, fEq, fMod, fNeg, fPow, arity, dCall, dCallY, dCallK, dCallX, dSoSetL, noEx, dCB, fGcd, fMax2, fMin2, fInt, dIsi, fIsi, isTy, refOk, dIsN, dNotN, dIsB, dNotB, isNon, isBl, sz_lt, sz_le, sRaise, sTry, collapse_const, endX, dXf, dXis, dBM, dBM0, tTr, fTr, aStar, sRetN, fAbs, sFor, iAny, iRng1, iEn, *])
local macro_rules | `(tactic| walk_at "t") => `(tactic| simp [fnF_eq, sSeq, sSet, sRet, sIf, sDrop, sNil, sAsg, sPar, sPut, F.then_nx, F.then_rt, F.then_bk, F.then_ct, F.then_ex, F.then_bad, F.then_ite, R.lift_ok, R.lift_ex, R.lift_bad, R.lift_ite, R.bind_ok, R.bind_ex, R.bind_bad, R.bind_ite, F.fin_nx, F.fin_rt, F.fin_ex, F.fin_bad, F.fin_ite, dVar, dC, bin, un, dAnd, dOr, dNot, tB', tAnd', tOr', tNot', dIf, asB_bl, aNil, aCons, dTup, mkT, dLst, mkL, seqOf, lstOf, fAdd, dSl, oSome, oNone, asI, fInT, fStr, fIntT, fFmt, dFmt, dJs, fPart, fStarts, fFind, fIsdig, fIsasc, fMulS, fSub, fLt, fGt, fLe, fGe, fEq, fMod, fNeg, fPow, arity, dCall, dCallY, dCallK, dCallX, dSoSetL, noEx, dCB, fGcd, fMax2, fMin2, fInt, dIsi, fIsi, isTy, refOk, dIsN, dNotN, dIsB, dNotB, isNon, isBl, sz_lt, sz_le, sRaise, sTry, collapse_const, endX, dXf, dXis, dBM, dBM0, tTr, fTr, aStar, sRetN, fAbs, sFor, iAny, iRng1, iEn, *])
namespace K03
/-! ### the row cell beside the box -/
theorem box_get {S : Sto} {L : List D} {E : Sto} (h : IsBox S (.lst L :: E)) : S[2]? = some (.lst L) := by
  obtain ⟨gs, x, st, c, rfl⟩ := h
  rfl
theorem box_set {S : Sto} {L M : List D} {E : Sto} (h : IsBox S (.lst L :: E)) : IsBox (S.set 2 (.lst M)) (.lst M :: E) := by
  obtain ⟨gs, x, st, c, rfl⟩ := h
  exact ⟨gs, x, st, c, rfl⟩
theorem box_app {S E F : Sto} (h : IsBox S E) : IsBox (S ++ F) (E ++ F) := by
  obtain ⟨gs, x, st, c, rfl⟩ := h
  exact ⟨gs, x, st, c, rfl⟩
theorem box_row {S : Sto} {L : List D} {E : Sto} (h : IsBox S (.lst L :: E)) : Row S (.ref 2) L := row_ref (box_get h)
theorem pick_ref {S : Sto} {L : List D} {E : Sto} (h : IsBox S (.lst L :: E)) (hp : 0 < L.length) (hl : L.length ≤ 1000) : ∃ d S', F_law_pick [.ref 1, .ref 2] S = .ok d S' ∧ IsBox S' (.lst L :: E) ∧ d ∈ L := by
  obtain ⟨d1, S1, e1, b1, p1, q1⟩ := draw_eq (n := L.length) h (by omega) (by omega)
  have hi : d1.toNat < L.length := by omega
  have l0 := len_row (box_row h).sq0
  have i0 := ix_row (k := d1.toNat) (box_row b1).sq0 (List.getElem?_eq_getElem hi)
  have ed : ((d1.toNat : Nat) : Int) = d1 := by omega
  rw [ed] at i0
  refine ⟨L[d1.toNat], S1, ?_, b1, List.getElem_mem hi⟩
  clear h b1 ed p1 q1
  generalize L[d1.toNat] = y at *
  generalize (L.length : Int) = n at *
  unfold F_law_pick
  walk_at "v"
theorem sp_nil_ref {S : Sto} {ts : List Tr} {n : Nat} (h : S[n]? = some (.lst (ts.map spT))) : fEq true (.ref n) (.lst []) S = .ok (.bl (!ts.isEmpty)) S := by
  show eqN true (.ref n) (.lst []) S = _
  have e1 : pyS S (.ref n) = some (.list (ts.map fun t => PySem.PyData.tuple [.tuple [.int t.1, .int t.2.1], hiY t.2.2])) := by
    simp only [pyS, h]; rw [pyA_sp]; rfl
  have e2 : pyS S (.lst []) = some (.list []) := by simp only [pyS]; rw [pyD, pyA]; rfl
  have s1 := shaped_sp ts
  have s2 : PySem.SeqAt.shaped (.list []) = true := shaped_ints []
  unfold eqN
  rw [e1, e2]
  simp only [s1, s2, and_self, if_true]
  cases ts <;> simp [PySem.PyData.eqv, PySem.PyData.eqvAll]
theorem near_row {S : Sto} {ts : List Tr} {E : Sto} (hS : IsBox S (.lst (ts.map spT) :: E)) (hT : ∀ t ∈ ts, IsT t) (hl : ts.length ≤ 6) :
    ∃ p q S', F_law_nearby [.ref 1, .ref 2] S = .ok (mo p q) S' ∧ IsBox S' (.lst (ts.map spT) :: E) ∧ IsM 40 p q := by
  obtain ⟨L, S1, e1, k1, L0, L9⟩ := draw_eq (n := 100) hS (by decide) (by decide)
  have n1 := sp_nil_ref (box_get k1)
  by_cases hn : ts = []
  · have hb : (!ts.isEmpty) = false := by rw [hn]; rfl
    rw [hb] at n1
    obtain ⟨p, q, S4, _, e4, k4, M, _⟩ := tail_eq (ds := .ref 2) (x3 := none) k1 L0 (by omega)
    refine ⟨p, q, S4, ?_, k4, M⟩
    clear hT hn hb
    rw [near_def]
    generalize fEq = fe at *
    simp [fnF_eq, sSeq, sSet, sIf, sNil, tAnd', tB', bin, dCall, arity, aCons, aNil, dVar, dC, dLst, mkL, sz_le, asB_bl, R.bind_ok, R.lift_ok, F.then_nx, F.fin_rt, e1, n1, e4]
  · have hb : (!ts.isEmpty) = true := by cases ts with | nil => exact absurd rfl hn | cons t ts => rfl
    rw [hb] at n1
    obtain ⟨c, S2, e2, k2, c0, c1⟩ := draw_eq (n := 4) k1 (by decide) (by decide)
    by_cases hc : 0 < c
    · obtain ⟨x, S3, e3, k3, hx⟩ := pick_ref k2 (by rw [List.length_map]; exact List.length_pos_iff.mpr hn) (by rw [List.length_map]; omega)
      obtain ⟨⟨l, r, h⟩, ht, rfl⟩ := List.mem_map.mp hx
      have H := hT _ ht
      cases h with
      | none =>
        obtain ⟨p, q, S4, _, e4, k4, M, _⟩ := tail_eq (ds := .ref 2) (x3 := some (sp l r none)) k3 H.l0 H.ln
        refine ⟨p, q, S4, ?_, k4, M⟩
        rw [near_def]
        clear hT hn hb H hx ht
        unfold spT sp hiD at *
        generalize fEq = fe at *
        simp [fnF_eq, sSeq, sSet, sIf, sNil, tAnd', tB', bin, fGt, hc, dNotN, isNon, fIx, seqOf, L2.atI, L2.ixN, dCall, arity, aCons, aNil, dVar, dC, dLst, mkL, sz_le, asB_bl, R.bind_ok, R.lift_ok, F.then_nx, F.fin_rt, e1, n1, e2, e3, e4]
      | some m =>
        obtain ⟨f, S4, e4, k4, f0, f1⟩ := draw_eq (n := 2) k3 (by decide) (by decide)
        by_cases hf : f = 1
        · obtain ⟨p, q, S5, _, e5, k5, M, _⟩ := tail_eq (ds := .ref 2) (x3 := some (sp l r (some m))) k4 H.hb.1 H.hb.2.1
          refine ⟨p, q, S5, ?_, k5, M⟩
          have q1 : ∀ T, fEq false (.int f) (.int 1) T = .ok (.bl true) T := fun T => by simp [fEq, hf]
          rw [near_def]
          clear hT hn hb H hx ht hf
          unfold spT sp hiD at *
          generalize fEq = fe at *
          simp [fnF_eq, sSeq, sSet, sIf, sNil, tAnd', tB', bin, fGt, hc, dNotN, isNon, fIx, seqOf, L2.atI, L2.ixN, dCall, arity, aCons, aNil, dVar, dC, dLst, mkL, sz_le, asB_bl, R.bind_ok, R.lift_ok, F.then_nx, F.fin_rt, e1, n1, e2, e3, e4, e5, q1]
        · obtain ⟨p, q, S5, _, e5, k5, M, _⟩ := tail_eq (ds := .ref 2) (x3 := some (sp l r (some m))) k4 H.l0 H.ln
          refine ⟨p, q, S5, ?_, k5, M⟩
          have q1 : ∀ T, fEq false (.int f) (.int 1) T = .ok (.bl false) T := fun T => by simp [fEq, hf]
          rw [near_def]
          clear hT hn hb H hx ht hf
          unfold spT sp hiD at *
          generalize fEq = fe at *
          simp [fnF_eq, sSeq, sSet, sIf, sNil, tAnd', tB', bin, fGt, hc, dNotN, isNon, fIx, seqOf, L2.atI, L2.ixN, dCall, arity, aCons, aNil, dVar, dC, dLst, mkL, sz_le, asB_bl, R.bind_ok, R.lift_ok, F.then_nx, F.fin_rt, e1, n1, e2, e3, e4, e5, q1]
    · obtain ⟨p, q, S4, _, e4, k4, M, _⟩ := tail_eq (ds := .ref 2) (x3 := none) k2 L0 (by omega)
      refine ⟨p, q, S4, ?_, k4, M⟩
      rw [near_def]
      clear hT hn hb
      generalize fEq = fe at *
      simp [fnF_eq, sSeq, sSet, sIf, sNil, tAnd', tB', bin, fGt, hc, dCall, arity, aCons, aNil, dVar, dC, dLst, mkL, sz_le, asB_bl, R.bind_ok, R.lift_ok, F.then_nx, F.fin_rt, e1, n1, e2, e4]
/-! ### the first loop: the row is drawn -/
noncomputable def lA : SDen := (sSeq (sDrop (dBM .list fApp (dVar 2) (aCons (dCall (arity 1 F_law_span) [] (aCons (dVar 1) (aNil))) (aNil)))) (sIf (tAnd' (tB' (bin fGt (dVar 3) (dC (.int 0)))) (tB' (bin (fEq false) (dCall (arity 2 F_law_draw) [] (aCons (dVar 1) (aCons (dC (.int 8)) (aNil)))) (dC (.int 0))))) (sPut (dVar 2) (dVar 3) (bin fIx (dVar 2) (bin fSub (dVar 3) (dC (.int 1))))) (sNil)))
theorem lA_eq {S : Sto} {ts : List Tr} {E : Sto} {sc : Option D} {tl : Env} (hS : IsBox S (.lst (ts.map spT) :: E)) (hT : ∀ t ∈ ts, IsT t) (hl : ts.length ≤ 100) : ∃ t S', lA (sc :: some (.ref 1) :: some (.ref 2) :: some (.int (ts.length : Nat)) :: tl) S = .nx (sc :: some (.ref 1) :: some (.ref 2) :: some (.int (ts.length : Nat)) :: tl) S' ∧ IsBox S' (.lst ((ts ++ [t]).map spT) :: E) ∧ IsT t := by
  obtain ⟨l, r, h, S1, e1, k1, H⟩ := span_eq hS
  have ty : tyD .list (.ref 2) S = true := by simp only [tyD, lstOf, box_get hS, Option.isSome]
  have ap : fApp (.ref 2) [spT (l, r, h)] S1 = .ok .non (S1.set 2 (.lst ((ts ++ [(l, r, h)]).map spT))) := by
    have hf : FitS (ts.map spT).length := of_eq_true (sz_lt (by rw [List.length_map]; omega))
    unfold fApp
    simp only [box_get k1, hf, if_true, List.map_append, List.map_cons, List.map_nil]
  have k2 := box_set (M := (ts ++ [(l, r, h)]).map spT) k1
  generalize hS2 : S1.set 2 (.lst ((ts ++ [(l, r, h)]).map spT)) = S2' at *
  have es : F_law_span [.ref 1] S = .ok (spT (l, r, h)) S1 := e1
  by_cases h0 : ts.length = 0
  · have h0' : ¬ (0 : Int) < ((ts.length : Nat) : Int) := by omega
    refine ⟨(l, r, h), S2', ?_, k2, H⟩
    clear hT hl hS k1 k2 e1 hS2 H
    generalize spT (l, r, h) = y at *
    generalize ((ts.length : Nat) : Int) = n at *
    unfold lA
    simp [sSeq, sDrop, sIf, sNil, tAnd', tB', bin, fGt, h0', dBM, dCall, arity, aCons, aNil, dVar, dC, asB_bl, R.bind_ok, R.lift_ok, F.then_nx, ty, es, ap]
  · have h0' : (0 : Int) < ((ts.length : Nat) : Int) := by omega
    obtain ⟨c, S3, e3, k3, c0, c1⟩ := draw_eq (n := 8) k2 (by decide) (by decide)
    by_cases hc : c = 0
    · have hi : ts.length - 1 < ts.length := by omega
      have e5 : ((ts ++ [(l, r, h)]).map spT)[ts.length - 1]? = some (spT ts[ts.length - 1]) := by
        rw [List.getElem?_map, List.getElem?_append_left hi, List.getElem?_eq_getElem hi]; rfl
      have i1 := ix_row (k := ts.length - 1) (box_row k3).sq0 e5
      have ei : (((ts.length - 1 : Nat)) : Int) = ((ts.length : Nat) : Int) - 1 := by omega
      rw [ei] at i1
      have en : L2.ixN ((ts ++ [(l, r, h)]).map spT).length ((ts.length : Nat) : Int) = some ts.length := by
        have q1 : ((ts ++ [(l, r, h)]).map spT).length = ts.length + 1 := by simp
        have q2 : ¬ ((ts.length : Nat) : Int) < 0 := by omega
        rw [q1]
        have q3 : ((ts.length : Nat) : Int) < ((ts.length : Nat) : Int) + 1 := by omega
        unfold L2.ixN
        simp [q2, q3]
      have em : ((ts ++ [(l, r, h)]).map spT).set ts.length (spT ts[ts.length - 1]) = (ts ++ [ts[ts.length - 1]]).map spT := by
        rw [List.map_append, List.set_append_right _ _ (by simp)]
        simp
      have pt : ∀ env : Env, sPut (dVar 2) (dVar 3) (bin fIx (dVar 2) (bin fSub (dVar 3) (dC (.int 1)))) (sc :: some (.ref 1) :: some (.ref 2) :: some (.int (ts.length : Nat)) :: tl) S3 = .nx (sc :: some (.ref 1) :: some (.ref 2) :: some (.int (ts.length : Nat)) :: tl) (S3.set 2 (.lst ((ts ++ [ts[ts.length - 1]]).map spT))) := fun _ => by
        have g3 := box_get k3
        rw [← em]
        generalize spT ts[ts.length - 1] = y at i1 ⊢
        generalize ((ts ++ [(l, r, h)]).map spT) = M1 at g3 en ⊢
        unfold sPut
        simp [bin, fSub, dVar, dC, R.bind_ok, R.lift_ok, i1, g3, en]
      refine ⟨ts[ts.length - 1], _, ?_, box_set (M := (ts ++ [ts[ts.length - 1]]).map spT) k3, hT _ (List.getElem_mem hi)⟩
      have q1 : ∀ T, fEq false (.int c) (.int 0) T = .ok (.bl true) T := fun T => by simp [fEq, hc]
      have pt' := pt []
      clear pt em en ei i1 e5 hT hl hS k1 k2 k3 e1 hS2 H hc
      generalize S3.set 2 (.lst ((ts ++ [ts[ts.length - 1]]).map spT)) = S4 at *
      generalize spT (l, r, h) = y at *
      generalize ((ts.length : Nat) : Int) = n at *
      unfold lA
      generalize sPut (dVar 2) (dVar 3) (bin fIx (dVar 2) (bin fSub (dVar 3) (dC (.int 1)))) = sp' at *
      generalize fEq = fe at *
      simp [sSeq, sDrop, sIf, sNil, tAnd', tB', bin, fGt, h0', dBM, dCall, arity, aCons, aNil, dVar, dC, asB_bl, R.bind_ok, R.lift_ok, F.then_nx, ty, es, ap, e3, q1, pt']
    · refine ⟨(l, r, h), S3, ?_, k3, H⟩
      have q1 : ∀ T, fEq false (.int c) (.int 0) T = .ok (.bl false) T := fun T => by simp [fEq, hc]
      clear hT hl hS k1 k2 k3 e1 hS2 H hc
      generalize spT (l, r, h) = y at *
      generalize ((ts.length : Nat) : Int) = n at *
      unfold lA
      generalize fEq = fe at *
      simp [sSeq, sDrop, sIf, sNil, tAnd', tB', bin, fGt, h0', dBM, dCall, arity, aCons, aNil, dVar, dC, asB_bl, R.bind_ok, R.lift_ok, F.then_nx, ty, es, ap, e3, q1]
end K03
end

section
set_option Elab.async false
set_option linter.all false
set_option maxRecDepth 100000
set_option maxHeartbeats 1000000
open Z
local macro_rules | `(tactic| walk_at "z") => `(tactic| simp [fnF_eq, sSeq, sSet, sRet, sIf, sDrop, sNil, sAsg, sPar, sPut, F.then_nx, F.then_rt, F.then_bk, F.then_ct, F.then_ex, F.then_bad, F.then_ite, R.lift_ok, R.lift_ex, R.lift_bad, R.lift_ite, R.bind_ok, R.bind_ex, R.bind_bad, R.bind_ite, F.fin_nx, F.fin_rt, F.fin_ex, F.fin_bad, F.fin_ite, dVar, dC, bin, un, dAnd, dOr, dNot, tB', tAnd', tOr', tNot', dIf, asB_bl, aNil, aCons, dTup, mkT, dLst, mkL, fIx, seqOf, lstOf, L2.atI, L2.ixN, fAdd, fPlus, dSl, oSome, oNone, asI, fSl, fInT, fStr, fIntT, fFmt, dFmt, dJs, fPart, fStarts, fFind, fIsdig, fIsasc, fMulS, fSub, fMul, fLt, fGt, fLe, fGe, fEq, fDiv, fMod, fNeg, fPow, arity, dCall, dCallY, dCallK, dCallX, dSoSetL, noEx, dCB, fGcd, fLen, fMax2, fMin2, fInt, gN, gT, gAll, dIsi, fIsi, isTy, refOk, dIsN, dNotN, dIsB, dNotB, isNon, isBl, sz_lt, sz_le, sRaise, sTry, collapse_const, endX, dXf, dXis, dBM, dBM0, fPop, fApp, fRevM, fIns, fPopAt, tTr, fTr, aStar, dSoSet, sRetN, fTuple, fAbs, tyD, *])
local macro_rules | `(tactic| walk_at "y") => `(tactic| simp [fnF_eq, sSeq, sSet, sRet, sIf, sDrop, sNil, sAsg, sPar, sPut, F.then_nx, F.then_rt, F.then_bk, F.then_ct, F.then_ex, F.then_bad, F.then_ite, R.lift_ok, R.lift_ex, R.lift_bad, R.lift_ite, R.bind_ok, R.bind_ex, R.bind_bad, R.bind_ite, F.fin_nx, F.fin_rt, F.fin_ex, F.fin_bad, F.fin_ite, dVar, dC, bin, un, dAnd, dOr, dNot, tB', tAnd', tOr', tNot', dIf, asB_bl, aNil, aCons, dTup, mkT, dLst, mkL, fIx, seqOf, lstOf, L2.atI, L2.ixN, fAdd, fPlus, dSl, oSome, oNone, asI, fSl, fInT, fStr, fIntT, fFmt, dFmt, dJs, fPart, fStarts, fFind, fIsdig, fIsasc, fMulS, fSub, fMul, fLt, fGt, fLe, fGe, fEq, fDiv, fMod, fNeg, fPow, arity, dCall, dCallY, dCallK, dCallX, dSoSetL, noEx, dCB, fGcd, fLen, fMax2, fMin2, fInt, sFor, iRng1, fRng1, iSeq, asSeq, iAny, asAny, dIsi, fIsi, isTy, refOk, dIsN, dNotN, dIsB, dNotB, isNon, isBl, sz_lt, sz_le, sRaise, sTry, collapse_const, endX, dXf, dXis, dBM, dBM0, fPop, fApp, fRevM, fIns, fPopAt, tTr, fTr, aStar, dSoSet, sRetN, fTuple, fAbs, tyD, *])
local macro_rules | `(tactic| walk_at "v") => `(tactic| simp [fnF_eq, sSeq, sSet, sRet, sIf, sDrop, sNil, sAsg, sPar, sPut, F.then_nx, F.then_rt, F.then_bk, F.then_ct, F.then_ex, F.then_bad, F.then_ite, R.lift_ok, R.lift_ex, R.lift_bad, R.lift_ite, R.bind_ok, R.bind_ex, R.bind_bad, R.bind_ite, F.fin_nx, F.fin_rt, F.fin_ex, F.fin_bad, F.fin_ite, dVar, dC, bin, un, dAnd, dOr, dNot, tB', tAnd', tOr', tNot', dIf, asB_bl, aNil, aCons, dTup, mkT, dLst, mkL, seqOf, lstOf, fAdd, fPlus, dSl, oSome, oNone, asI, fInT, fStr, fIntT, fFmt, dFmt, dJs, fPart, fStarts, fFind, fIsdig, fIsasc, fMulS, fSub, fLt, fGt, fLe, fGe, fEq, fMod, fNeg, fPow, arity, dCall, dCallY, dCallK, dCallX, dSoSetL, noEx, dCB, fGcd, fMax2, fMin2, fInt, gN, gT, gAll, dIsi, fIsi, isTy, refOk, dIsN, dNotN, dIsB, dNotB, isNon, isBl, sz_lt, sz_le, sRaise, sTry, collapse_const, endX, dXf, dXis, dBM, dBM0, tTr, fTr, aStar, sRetN, fAbs, *])
local macro_rules | `(tactic| walk_at "u") => `(tactic| simp [fnF_eq, sSeq, sSet, sRet, sIf, sDrop, sNil, sAsg, sPar, sPut, F.then_nx, F.then_rt, F.then_bk, F.then_ct, F.then_ex, F.then_bad, F.then_ite, R.lift_ok, R.lift_ex, R.lift_bad, R.lift_ite, R.bind_ok, R.bind_ex, R.bind_bad, R.bind_ite, F.fin_nx, F.fin_rt, F.fin_ex, F.fin_bad, F.fin_ite, dVar, dC, bin, un, dAnd, dOr, dNot, tB', tAnd', tOr', tNot', dIf, asB_bl, aNil, aCons, dTup, mkT, dLst, mkL, seqOf, lstOf, fAdd, fPlus, dSl, oSome, oNone, asI, fInT, fStr, fIntT, fFmt, dFmt, dJs, fPart, fStarts, fFind, fIsdig, fIsasc, fMulS, fSub, fLt, fGt, fLe, fGe, fEq, fMod, fNeg, fPow, arity, dCall, dCallY, dCallK, dCallX, dSoSetL, noEx, dCB, fGcd, fMax2, fMin2, fInt, dIsi, fIsi, isTy, refOk, dIsN, dNotN, dIsB, dNotB, isNon, isBl, sz_lt, sz_le, sRaise, sTry, collapse_const, endX, dXf, dXis, dBM, dBM0, tTr, fTr, aStar, sRetN, fAbs, sFor, iAny, iRng1, iEn, *])
local macro_rules | `(tactic| walk_at "t") => `(tactic| simp [fnF_eq, sSeq, sSet, sRet, sIf, sDrop, sNil, sAsg, sPar, sPut, F.then_nx, F.then_rt, F.then_bk, F.then_ct, F.then_ex, F.then_bad, F.then_ite, R.lift_ok, R.lift_ex, R.lift_bad, R.lift_ite, R.bind_ok, R.bind_ex, R.bind_bad, R.bind_ite, F.fin_nx, F.fin_rt, F.fin_ex, F.fin_bad, F.fin_ite, dVar, dC, bin, un, dAnd, dOr, dNot, tB', tAnd', tOr', tNot', dIf, asB_bl, aNil, aCons, dTup, mkT, dLst, mkL, seqOf, lstOf, fAdd, dSl, oSome, oNone, asI, fInT, fStr, fIntT, fFmt, dFmt, dJs, fPart, fStarts, fFind, fIsdig, fIsasc, fMulS, fSub, fLt, fGt, fLe, fGe, fEq, fMod, fNeg, fPow, arity, dCall, dCallY, dCallK, dCallX, dSoSetL, noEx, dCB, fGcd, fMax2, fMin2, fInt, dIsi, fIsi, isTy, refOk, dIsN, dNotN, dIsB, dNotB, isNon, isBl, sz_lt, sz_le, sRaise, sTry, collapse_const, endX, dXf, dXis, dBM, dBM0, tTr, fTr, aStar, sRetN, fAbs, sFor, iAny, iRng1, iEn, *])
namespace K03
abbrev rgD (k m : Nat) : List D := (List.range' k m).map fun i : Nat => D.int (i : Nat)
theorem rg_eq (n : Nat) : rngD 0 n = rgD 0 n := by
  unfold rngD rgD
  rw [List.range_eq_range']
  exact List.map_congr_left fun i _ => by rw [Int.zero_add]
theorem lA_go {sc x4 x5 x6 : Option D} {E : Sto} : ∀ (m k : Nat) (ts : List Tr) (S : Sto) (x3 : Option D), ts.length = k → k + m ≤ 90 → IsBox S (.lst (ts.map spT) :: E) → (∀ t ∈ ts, IsT t) →
    ∃ (ts' : List Tr) (S' : Sto) (x3' : Option D), forGo (fun _ => True) (gN 3) lA (rgD k m) [sc, some (.ref 1), some (.ref 2), x3, x4, x5, x6] S = .nx [sc, some (.ref 1), some (.ref 2), x3', x4, x5, x6] S' ∧ ts'.length = k + m ∧ IsBox S' (.lst (ts'.map spT) :: E) ∧ ∀ t ∈ ts', IsT t
  | 0, k, ts, S, x3, hk, _, hS, hT => ⟨ts, S, x3, forGo_nil trivial, hk, hS, hT⟩
  | m + 1, k, ts, S, x3, hk, hl, hS, hT => by
    subst hk
    obtain ⟨t, S1, e1, k1, H⟩ := lA_eq (sc := sc) (tl := [x4, x5, x6]) hS hT (by omega)
    obtain ⟨ts', S', x3', e2, l2, k2, H2⟩ := lA_go (sc := sc) (x4 := x4) (x5 := x5) (x6 := x6) m (ts.length + 1) (ts ++ [t]) S1 (some (.int (ts.length : Nat))) (by simp) (by omega) k1 (fun z hz => by
      rcases List.mem_append.mp hz with hz | hz
      · exact hT z hz
      · simp only [List.mem_cons, List.not_mem_nil, or_false] at hz
        rw [hz]; exact H)
    refine ⟨ts', S', x3', ?_, by omega, k2, H2⟩
    have er : rgD ts.length (m + 1) = .int (ts.length : Nat) :: rgD (ts.length + 1) m := by
      unfold rgD
      rw [List.range'_succ, List.map_cons]
    have eg : (gN 3).run (.int (ts.length : Nat)) [sc, some (.ref 1), some (.ref 2), x3, x4, x5, x6] = some [sc, some (.ref 1), some (.ref 2), some (.int (ts.length : Nat)), x4, x5, x6] := rfl
    rw [er, forGo, if_pos trivial, eg]
    simp only [e1]
    exact e2
/-! ### the second loop -/
noncomputable def lB : SDen := (sSeq (sIf (tNot' (tB' (dCall (arity 2 (F_law_same 6)) [] (aCons (dCall (arity 2 F_law_built) [] (aCons (dVar 1) (aCons (dVar 4) (aNil)))) (aCons (dTup (aCons (dC (.bl true)) (aCons (dVar 4) (aNil)))) (aNil)))))) (sRet (dC (.bl false))) (sNil)) (sIf (tNot' (tB' (dCall (arity 2 (F_law_same 6)) [] (aCons (dCall (arity 1 Fspan_moment) [] (aCons (dVar 4) (aNil))) (aCons (dCall (arity 1 F_law_moment_of) [] (aCons (dVar 4) (aNil))) (aNil)))))) (sRet (dC (.bl false))) (sNil)))
theorem IsT.ok {t : Tr} (h : IsT t) : okB t.1 t.2.1 t.2.2 = true := by
  obtain ⟨l, r, u⟩ := t
  have l0 : 0 ≤ l := h.l0
  have hb := h.hb
  unfold okB
  simp only [decide_eq_true l0, Bool.true_and]
  cases u with
  | none => rfl
  | some m =>
    obtain ⟨_, _, _, q⟩ := hb
    simp only [hmB, decide_eq_true_eq]
    simp only at q
    omega
theorem flat_spT (t : Tr) : flatD' 4 (spT t) = true := by
  obtain ⟨l, r, h⟩ := t
  cases h <;> rfl
theorem lB_eq {sc x3 x5 x6 : Option D} {S E : Sto} {t : Tr} (hS : IsBox S E) (H : IsT t) : ∃ S', lB [sc, some (.ref 1), some (.ref 2), x3, some (spT t), x5, x6] S = .nx [sc, some (.ref 1), some (.ref 2), x3, some (spT t), x5, x6] S' ∧ IsBox S' E := by
  obtain ⟨S1, e1, k1⟩ := built_eq (l := t.1) (r := t.2.1) (h := t.2.2) hS H.r H.s
  have e1' : F_law_built [.ref 1, spT t] S = .ok (.tup [.bl true, spT t]) S1 := by
    have z : tellB t.1 t.2.1 t.2.2 = .tup [.bl true, spT t] := by unfold tellB; rw [H.ok, if_pos rfl]
    rw [← z]; exact e1
  obtain ⟨m, e2, e3, fm⟩ := moment_eq H S1
  have e2' : Fspan_moment [spT t] S1 = .ok m S1 := e2
  have e3' : F_law_moment_of [spT t] S1 = .ok m S1 := e3
  have s1 : F_law_same 6 [.tup [.bl true, spT t], .tup [.bl true, spT t]] S1 = .ok (.bl true) S1 := same_eq 5 _ S1 (by obtain ⟨l, r, h⟩ := t; cases h <;> rfl)
  have s2 : F_law_same 6 [m, m] S1 = .ok (.bl true) S1 := same_eq 5 m S1 fm
  refine ⟨S1, ?_, k1⟩
  clear e1 e2 e3 fm H hS k1
  generalize spT t = y at *
  unfold lB
  simp [sSeq, sIf, sNil, tNot', tB', dCall, arity, aCons, aNil, dTup, mkT, sz_le, dVar, dC, asB_bl, R.bind_ok, R.lift_ok, F.then_nx, e1', e2', e3', s1, s2]
theorem lB_go {sc x3 x5 x6 : Option D} {E : Sto} {L : List D} {g : Sto → Prop} (hg : ∀ S, IsBox S (.lst L :: E) → g S) : ∀ (ts : List Tr) (S : Sto) (x4 : Option D), (∀ t ∈ ts, IsT t) → IsBox S (.lst L :: E) →
    ∃ S' x4', forGo g (gN 4) lB (ts.map spT) [sc, some (.ref 1), some (.ref 2), x3, x4, x5, x6] S = .nx [sc, some (.ref 1), some (.ref 2), x3, x4', x5, x6] S' ∧ IsBox S' (.lst L :: E)
  | [], S, x4, _, hS => ⟨S, x4, forGo_nil (hg S hS), hS⟩
  | t :: ts, S, x4, hT, hS => by
    obtain ⟨S1, e1, k1⟩ := lB_eq (sc := sc) (x3 := x3) (x5 := x5) (x6 := x6) hS (hT t List.mem_cons_self)
    obtain ⟨S', x4', e2, k2⟩ := lB_go (sc := sc) (x3 := x3) (x5 := x5) (x6 := x6) hg ts S1 (some (spT t)) (fun z hz => hT z (List.mem_cons_of_mem _ hz)) k1
    refine ⟨S', x4', ?_, k2⟩
    have eg : (gN 4).run (spT t) [sc, some (.ref 1), some (.ref 2), x3, x4, x5, x6] = some [sc, some (.ref 1), some (.ref 2), x3, some (spT t), x5, x6] := rfl
    rw [List.map_cons, forGo, if_pos (hg S hS), eg]
    simp only [e1]
    exact e2
/-! ### the third loop -/
noncomputable def lD : SDen := (sIf (tNot' (tB' (dCall (arity 2 (F_law_same 6)) [] (aCons (dCall (arity 2 Fin_span) [] (aCons (dVar 5) (aCons (dVar 4) (aNil)))) (aCons (dCall (arity 2 F_law_holds) [] (aCons (dVar 4) (aCons (dVar 5) (aNil)))) (aNil)))))) (sRet (dC (.bl false))) (sNil))
noncomputable def lC : SDen := (sSeq (sSet 5 (dCall (arity 2 F_law_nearby) [] (aCons (dVar 1) (aCons (dVar 2) (aNil))))) (sFor (iAny (bin fPlus (dVar 2) (dLst false (aCons (dTup (aCons (dTup (aCons (dC (.int 0)) (aCons (dC (.int 1)) (aNil)))) (aCons (dC .non) (aNil)))) (aNil))))) (gN 4) lD))
theorem lD_go {sc a1 a2 x3 x6 : Option D} {p q : Int} {S : Sto} (M : IsM 40 p q) : ∀ (ts : List Tr) (x4 : Option D), (∀ t ∈ ts, IsT t) →
    ∃ x4', forGo (fun _ => True) (gN 4) lD (ts.map spT) [sc, a1, a2, x3, x4, some (mo p q), x6] S = .nx [sc, a1, a2, x3, x4', some (mo p q), x6] S
  | [], x4, _ => ⟨x4, forGo_nil trivial⟩
  | t :: ts, x4, hT => by
    have H := hT t List.mem_cons_self
    obtain ⟨x4', e2⟩ := lD_go (sc := sc) (a1 := a1) (a2 := a2) (x3 := x3) (x6 := x6) (S := S) M ts (some (spT t)) fun z hz => hT z (List.mem_cons_of_mem _ hz)
    refine ⟨x4', ?_⟩
    have e1 : Fin_span [mo p q, spT t] S = .ok (.bl (inB p q t.1 t.2.1 t.2.2)) S := in_span_eq (M.ps.mono (by decide)) (M.qs.mono (by decide)) H (by decide)
    have e3 : F_law_holds [spT t, mo p q] S = .ok (.bl (inB p q t.1 t.2.1 t.2.2)) S := law_holds_eq H (by decide)
    have s1 : F_law_same 6 [.bl (inB p q t.1 t.2.1 t.2.2), .bl (inB p q t.1 t.2.1 t.2.2)] S = .ok (.bl true) S := same_b _ S
    have eb : lD [sc, a1, a2, x3, some (spT t), some (mo p q), x6] S = .nx [sc, a1, a2, x3, some (spT t), some (mo p q), x6] S := by
      clear H hT e2 M
      generalize inB p q t.1 t.2.1 t.2.2 = b at *
      generalize spT t = y at *
      generalize mo p q = z at *
      unfold lD
      simp [sIf, sNil, tNot', tB', dCall, arity, aCons, aNil, dVar, asB_bl, R.bind_ok, R.lift_ok, e1, e3, s1]
    have eg : (gN 4).run (spT t) [sc, a1, a2, x3, x4, some (mo p q), x6] = some [sc, a1, a2, x3, some (spT t), some (mo p q), x6] := rfl
    rw [List.map_cons, forGo, if_pos trivial, eg]
    simp only [eb]
    exact e2
theorem isT_0 : IsT (0, 1, none) := ⟨by decide, by decide, .inr rfl, trivial⟩
theorem lC_eq {sc x3 x4 x5 x6 : Option D} {S E : Sto} {ts : List Tr} (hS : IsBox S (.lst (ts.map spT) :: E)) (hT : ∀ t ∈ ts, IsT t) (hl : ts.length ≤ 6) : ∃ S' x4' x5', lC [sc, some (.ref 1), some (.ref 2), x3, x4, x5, x6] S = .nx [sc, some (.ref 1), some (.ref 2), x3, x4', x5', x6] S' ∧ IsBox S' (.lst (ts.map spT) :: E) := by
  obtain ⟨p, q, S1, e1, k1, M⟩ := near_row hS hT hl
  obtain ⟨x4', e2⟩ := lD_go (sc := sc) (a1 := some (.ref 1)) (a2 := some (.ref 2)) (x3 := x3) (x6 := x6) (S := S1) M (ts ++ [(0, 1, none)]) x4 fun z hz => by
    rcases List.mem_append.mp hz with hz | hz
    · exact hT z hz
    · simp only [List.mem_cons, List.not_mem_nil, or_false] at hz
      rw [hz]; exact isT_0
  refine ⟨S1, x4', some (mo p q), ?_, k1⟩
  have g1 := box_get k1
  have ep : fPlus (.ref 2) (.lst [.tup [.tup [.int 0, .int 1], .non]]) S1 = .ok (.lst ((ts ++ [(0, 1, none)]).map spT)) S1 := by
    have hf : Fit (ts.map spT ++ [D.tup [.tup [.int 0, .int 1], .non]]).length := of_eq_true (sz_le (by simp; omega))
    have e : (ts ++ [(0, 1, none)]).map spT = ts.map spT ++ [D.tup [.tup [.int 0, .int 1], .non]] := by rw [List.map_append]; rfl
    rw [e]
    unfold fPlus
    simp only [ownOf, g1, mkL]
    rw [if_pos hf]
    rfl
  have ea : ∀ T, asAny (.lst ((ts ++ [(0, 1, none)]).map spT)) T = .ok ((ts ++ [(0, 1, none)]).map spT, fun _ => True) T := fun _ => rfl
  clear M hT hl hS g1 k1
  generalize ((ts ++ [(0, 1, none)]).map spT) = L at *
  generalize mo p q = z at *
  unfold lC
  generalize lD = ld at *
  generalize gN 4 = g4 at *
  simp [sSeq, sSet, sFor, iAny, bin, dCall, arity, aCons, aNil, dVar, dC, dTup, mkT, dLst, mkL, sz_le, R.bind_ok, R.lift_ok, F.then_nx, e1, e2, ep, ea]
theorem lC_go {sc x6 : Option D} {E : Sto} {ts : List Tr} (hT : ∀ t ∈ ts, IsT t) (hl : ts.length ≤ 6) : ∀ (xs : List D) (S : Sto) (x3 x4 x5 : Option D), IsBox S (.lst (ts.map spT) :: E) →
    ∃ S' x3' x4' x5', forGo (fun _ => True) (gN 3) lC xs [sc, some (.ref 1), some (.ref 2), x3, x4, x5, x6] S = .nx [sc, some (.ref 1), some (.ref 2), x3', x4', x5', x6] S' ∧ IsBox S' (.lst (ts.map spT) :: E)
  | [], S, x3, x4, x5, hS => ⟨S, x3, x4, x5, forGo_nil trivial, hS⟩
  | x :: xs, S, x3, x4, x5, hS => by
    obtain ⟨S1, y4, y5, e1, k1⟩ := lC_eq (sc := sc) (x3 := some x) (x4 := x4) (x5 := x5) (x6 := x6) hS hT hl
    obtain ⟨S', z3, z4, z5, e2, k2⟩ := lC_go (sc := sc) (x6 := x6) hT hl xs S1 (some x) y4 y5 k1
    refine ⟨S', z3, z4, z5, ?_, k2⟩
    have eg : (gN 3).run x [sc, some (.ref 1), some (.ref 2), x3, x4, x5, x6] = some [sc, some (.ref 1), some (.ref 2), some x, x4, x5, x6] := rfl
    rw [forGo, if_pos trivial, eg]
    simp only [e1]
    exact e2
/-! ### the law -/
noncomputable def lT : SDen := (sSeq (sSet 6 (dCall (arity 1 F_law_wrong) [] (aCons (dVar 1) (aNil)))) (sSeq (sIf (tNot' (tB' (dCall (arity 2 (F_law_same 6)) [] (aCons (dCall (arity 2 F_law_built) [] (aCons (dVar 1) (aCons (dVar 6) (aNil)))) (aCons (dTup (aCons (dC (.bl false)) (aCons (dTup (aCons (dVar 6) (aCons (dC (.bl true)) (aNil)))) (aNil)))) (aNil)))))) (sRet (dC (.bl false))) (sNil)) (sRet (dCall (arity 1 F_law_joins_hold) [] (aCons (dSl false (dVar 2) (oSome (dC (.int 1))) (oNone)) (aNil))))))
theorem law_def : Flaw = fnF 7 (sSeq (sSet 1 (dCall (arity 1 F_law_box) [] (aCons (dVar 0) (aNil)))) (sSeq (sSet 2 (dLst true (aNil))) (sSeq (sFor (iRng1 (aCons (dCall (arity 2 F_law_draw) [] (aCons (dVar 1) (aCons (dC (.int 6)) (aNil)))) (aNil))) (gN 3) lA) (sSeq (sIf (tOr' (tNot' (tB' (dCall (arity 2 (F_law_same 6)) [] (aCons (dC (.tup [(.tup [(.int (0)), (.int (1))]), .non])) (aCons (dTup (aCons (dTup (aCons (dC (.int 0)) (aCons (dC (.int 1)) (aNil)))) (aCons (dC .non) (aNil)))) (aNil)))))) (tNot' (tB' (dCall (arity 1 F_law_joins_hold) [] (aCons (dVar 2) (aNil)))))) (sRet (dC (.bl false))) (sNil)) (sSeq (sFor (iAny (dVar 2)) (gN 4) lB) (sSeq (sFor (iRng1 (aCons (dC (.int 3)) (aNil))) (gN 3) lC) lT)))))) := rfl
theorem lT_eq {sc x3 x4 x5 x6 : Option D} {S E : Sto} {ts : List Tr} (hS : IsBox S (.lst (ts.map spT) :: E)) (hT : ∀ t ∈ ts, IsT t) (hl : ts.length ≤ 5) : ∃ S', lT [sc, some (.ref 1), some (.ref 2), x3, x4, x5, x6] S = .rt (.bl true) S' := by
  obtain ⟨l, r, h, S1, e1, k1, hr, hs, hk⟩ := wrong_eq hS
  obtain ⟨S2', e2, k2⟩ := built_eq (l := l) (r := r) (h := h) k1 hr hs
  have z : tellB l r h = .tup [.bl false, .tup [sp l r h, .bl true]] := by unfold tellB; rw [hk, if_neg Bool.false_ne_true]
  rw [z] at e2
  have s1 : F_law_same 6 [.tup [.bl false, .tup [sp l r h, .bl true]], .tup [.bl false, .tup [sp l r h, .bl true]]] S2' = .ok (.bl true) S2' := same_eq 5 _ S2' (by cases h <;> rfl)
  have hc : cutD (ts.map spT) (some 1) none = (cutD ts (some 1) none).map spT := cutD_map spT ts (some 1) none
  have hcl : (cutD ts (some 1) none).length ≤ ts.length := cutD_len ts _ _
  obtain ⟨A, B, e3⟩ := joins_eq (row_lst S2' ((cutD ts (some 1) none).map spT)) (fun t ht => hT t (cut_mem ht)) (by omega)
  have g2 := box_get k2
  have hf : Fit ((cutD ts (some 1) none).map spT).length := of_eq_true (sz_le (by rw [List.length_map]; omega))
  refine ⟨S2 S2' A B, ?_⟩
  clear hk z hr hs hS k1 k2 hT hl hcl
  generalize ((cutD ts (some 1) none).map spT) = L at *
  generalize sp l r h = y at *
  unfold lT
  simp [sSeq, sSet, sIf, sNil, sRet, tNot', tB', dCall, arity, aCons, aNil, dVar, dC, dTup, mkT, dSl, oSome, oNone, asI, fSl, lstOf, g2, hc, mkL, hf, sz_le, asB_bl, R.bind_ok, R.lift_ok, F.then_nx, e1, e2, e3, s1]
theorem holds : Holds Flaw := by
  intro ns hl _
  obtain ⟨S0, e0, k0⟩ := box_eq ns hl
  have len0 : S0.length = 2 := by obtain ⟨gs, x, st, c, rfl⟩ := k0; rfl
  have k1 : IsBox (S0 ++ [.lst (([] : List Tr).map spT)]) [.lst (([] : List Tr).map spT)] := box_app k0
  obtain ⟨d, S1, e1, k2, d0, d1⟩ := draw_eq (n := 6) k1 (by decide) (by decide)
  obtain ⟨n, rfl⟩ : ∃ n : Nat, d = (n : Int) := ⟨d.toNat, by omega⟩
  have hn : n ≤ 5 := by omega
  have er := fRng1_eq (i := (n : Int)) (S := S1) rfl (by omega)
  rw [rg_eq] at er
  obtain ⟨ts, S3, x3, e2, l2, k3, hT⟩ := lA_go (sc := some (.frz (ns.map D.int))) (x4 := none) (x5 := none) (x6 := none) n 0 [] S1 none rfl (by omega) k2 (fun t ht => (List.not_mem_nil ht).elim)
  have l5 : ts.length ≤ 5 := by omega
  obtain ⟨A, B, e3⟩ := joins_eq (box_row k3) hT l5
  have k4 : IsBox (S2 S3 A B) (.lst (ts.map spT) :: [.lst A, .lst B]) := box_app k3
  have sE := same_eq 5 (.tup [(.tup [(.int (0)), (.int (1))]), .non]) S3 rfl
  have sE' : F_law_same 6 [.tup [(.tup [(.int (0)), (.int (1))]), .non], .tup [(.tup [(.int (0)), (.int (1))]), .non]] S3 = .ok (.bl true) S3 := sE
  have a4 := (box_row k4).an []
  rw [List.append_nil] at a4
  obtain ⟨S5, x4, e5, k5⟩ := lB_go (sc := some (.frz (ns.map D.int))) (x3 := x3) (x5 := none) (x6 := none) (g := still (.ref 2) (ts.map spT)) (fun S hS => box_get hS) ts (S2 S3 A B) none hT k4
  have er3 := fRng1_eq (i := 3) (n := 3) (S := S5) rfl (by omega)
  obtain ⟨S6, y3, y4, y5, e6, k6⟩ := lC_go (sc := some (.frz (ns.map D.int))) (x6 := none) hT (by omega) (rngD 0 3) S5 x3 x4 none k5
  obtain ⟨S7, e7⟩ := lT_eq (sc := some (.frz (ns.map D.int))) (x3 := y3) (x4 := y4) (x5 := y5) (x6 := none) k6 hT l5
  refine ⟨S7, ?_⟩
  rw [law_def]
  simp only [List.map_nil] at *
  clear sE k0 k1 k2 k3 k4 k5 k6 hT hl d0 d1 hn l5 l2
  generalize lA = la at *
  generalize lB = lb at *
  generalize lC = lc at *
  generalize lT = lt at *
  generalize ts.map spT = L at *
  generalize gN 3 = g3 at *
  generalize gN 4 = g4 at *
  generalize rgD 0 n = RA at *
  generalize rngD 0 3 = RB at *
  generalize (D.frz (ns.map D.int)) = sc at *
  simp [fnF_eq, sSeq, sSet, sFor, sIf, sNil, iRng1, iAny, tOr', tNot', tB', dCall, arity, aCons, aNil, dVar, dC, dTup, mkT, dLst, mkL, sz_le, asB_bl, R.bind_ok, R.lift_ok, F.then_nx, F.fin_rt, e0, len0, e1, er, e2, e3, sE', a4, e5, er3, e6, e7]
end K03
end

section
set_option Elab.async false
set_option linter.all false
set_option maxRecDepth 100000
set_option maxHeartbeats 4000000
namespace K03
open PySem PySem.Spec PyProof.Rows L2 Z
/-! ### what the top leaves -/
structure Tx (K : PySem.W.Frag) (mg : Str → Option Value) where
  b_ValueError : mg "ValueError" = none
  b_all : mg "all" = none
  b_bool : mg "bool" = none
  b_gcd : mg "gcd" = some (.builtin "math.gcd")
  b_int : mg "int" = none
  b_isinstance : mg "isinstance" = none
  b_len : mg "len" = none
  b_list : mg "list" = none
  b_max : mg "max" = none
  b_min : mg "min" = none
  b_range : mg "range" = none
  b_reversed : mg "reversed" = none
  b_set : mg "set" = none
  b_sorted : mg "sorted" = none
  b_str : mg "str" = none
  b_tuple : mg "tuple" = none
  w_EVER : Addr
  v_EVER : mg "EVER" = some (.ref w_EVER)
  r_EVER : ∀ H ι, Rp K H ι (.ref w_EVER) (.tup [(.tup [(.int (0)), (.int (1))]), .non])
  c_BellError : Addr
  gl_BellError : mg "BellError" = some (.ref c_BellError)
  c_InvalidMoment : Addr
  ci_InvalidMoment : Addr
  di_InvalidMoment : FuncData
  e_InvalidMoment : ErrC K mg "InvalidMoment" c_InvalidMoment ["value"]
  i_InvalidMoment : PySem.W.findIn K (.ref c_InvalidMoment) "__init__" = some (some (.ref ci_InvalidMoment))
  t_InvalidMoment : PySem.W.typeIn K (.ref ci_InvalidMoment) = some (.type "function")
  u_InvalidMoment : Fun K "__init__" "InvalidMoment.__init__" sInvalidMoment ci_InvalidMoment di_InvalidMoment
  x_InvalidMoment : PySem.W.exmOne K (.ref c_InvalidMoment) (.ref c_InvalidMoment) = some true
  c_InvalidSpan : Addr
  ci_InvalidSpan : Addr
  di_InvalidSpan : FuncData
  e_InvalidSpan : ErrC K mg "InvalidSpan" c_InvalidSpan ["value"]
  i_InvalidSpan : PySem.W.findIn K (.ref c_InvalidSpan) "__init__" = some (some (.ref ci_InvalidSpan))
  t_InvalidSpan : PySem.W.typeIn K (.ref ci_InvalidSpan) = some (.type "function")
  u_InvalidSpan : Fun K "__init__" "InvalidSpan.__init__" sInvalidSpan ci_InvalidSpan di_InvalidSpan
  x_InvalidSpan : PySem.W.exmOne K (.ref c_InvalidSpan) (.ref c_InvalidSpan) = some true
  c_InvalidTable : Addr
  ci_InvalidTable : Addr
  di_InvalidTable : FuncData
  e_InvalidTable : ErrC K mg "InvalidTable" c_InvalidTable ["value"]
  i_InvalidTable : PySem.W.findIn K (.ref c_InvalidTable) "__init__" = some (some (.ref ci_InvalidTable))
  t_InvalidTable : PySem.W.typeIn K (.ref ci_InvalidTable) = some (.type "function")
  u_InvalidTable : Fun K "__init__" "InvalidTable.__init__" sInvalidTable ci_InvalidTable di_InvalidTable
  x_InvalidTable : PySem.W.exmOne K (.ref c_InvalidTable) (.ref c_InvalidTable) = some true
  k_InvalidSpan_BellError : PySem.W.kitOne K (.ref c_InvalidSpan) (.ref c_BellError) = some true
  k_InvalidSpan_InvalidMoment : PySem.W.kitOne K (.ref c_InvalidSpan) (.ref c_InvalidMoment) = some false
  k_InvalidSpan_InvalidTable : PySem.W.kitOne K (.ref c_InvalidSpan) (.ref c_InvalidTable) = some false
  k_InvalidSpan_ValueError : PySem.W.kitOne K (.ref c_InvalidSpan) (.type "ValueError") = some true
  a_is_whole : Addr
  d_is_whole : FuncData
  g_is_whole : mg "is_whole" = some (.ref a_is_whole)
  u_is_whole : Fun K "is_whole" "is_whole" sis_whole a_is_whole d_is_whole
  k_is_whole : PySem.W.keepIn K (.ref a_is_whole) = true
  a_is_tuple_of : Addr
  d_is_tuple_of : FuncData
  g_is_tuple_of : mg "is_tuple_of" = some (.ref a_is_tuple_of)
  u_is_tuple_of : Fun K "is_tuple_of" "is_tuple_of" sis_tuple_of a_is_tuple_of d_is_tuple_of
  k_is_tuple_of : PySem.W.keepIn K (.ref a_is_tuple_of) = true
  a_in_lowest_terms : Addr
  d_in_lowest_terms : FuncData
  g_in_lowest_terms : mg "in_lowest_terms" = some (.ref a_in_lowest_terms)
  u_in_lowest_terms : Fun K "in_lowest_terms" "in_lowest_terms" sin_lowest_terms a_in_lowest_terms d_in_lowest_terms
  k_in_lowest_terms : PySem.W.keepIn K (.ref a_in_lowest_terms) = true
  a_added : Addr
  d_added : FuncData
  g_added : mg "added" = some (.ref a_added)
  u_added : Fun K "added" "added" sadded a_added d_added
  k_added : PySem.W.keepIn K (.ref a_added) = true
  a_compared : Addr
  d_compared : FuncData
  g_compared : mg "compared" = some (.ref a_compared)
  u_compared : Fun K "compared" "compared" scompared a_compared d_compared
  k_compared : PySem.W.keepIn K (.ref a_compared) = true
  a_halfway : Addr
  d_halfway : FuncData
  g_halfway : mg "halfway" = some (.ref a_halfway)
  u_halfway : Fun K "halfway" "halfway" shalfway a_halfway d_halfway
  k_halfway : PySem.W.keepIn K (.ref a_halfway) = true
  a_is_edge : Addr
  d_is_edge : FuncData
  g_is_edge : mg "is_edge" = some (.ref a_is_edge)
  u_is_edge : Fun K "is_edge" "is_edge" sis_edge a_is_edge d_is_edge
  k_is_edge : PySem.W.keepIn K (.ref a_is_edge) = true
  a_is_span : Addr
  d_is_span : FuncData
  g_is_span : mg "is_span" = some (.ref a_is_span)
  u_is_span : Fun K "is_span" "is_span" sis_span a_is_span d_is_span
  k_is_span : PySem.W.keepIn K (.ref a_is_span) = true
  a_has_moment : Addr
  d_has_moment : FuncData
  g_has_moment : mg "has_moment" = some (.ref a_has_moment)
  u_has_moment : Fun K "has_moment" "has_moment" shas_moment a_has_moment d_has_moment
  k_has_moment : PySem.W.keepIn K (.ref a_has_moment) = true
  a_span : Addr
  d_span : FuncData
  g_span : mg "span" = some (.ref a_span)
  u_span : FunD K "span" "span" (defArgs sspan) (defBody sspan) (defScope sspan) [.non] [("low_reach", .int 1), ("high_reach", .int 1)] a_span d_span
  k_span : PySem.W.keepIn K (.ref a_span) = true
  a_in_span : Addr
  d_in_span : FuncData
  g_in_span : mg "in_span" = some (.ref a_in_span)
  u_in_span : Fun K "in_span" "in_span" sin_span a_in_span d_in_span
  k_in_span : PySem.W.keepIn K (.ref a_in_span) = true
  a_low_order : Addr
  d_low_order : FuncData
  g_low_order : mg "low_order" = some (.ref a_low_order)
  u_low_order : Fun K "low_order" "low_order" slow_order a_low_order d_low_order
  k_low_order : PySem.W.keepIn K (.ref a_low_order) = true
  a_span_meet : Addr
  d_span_meet : FuncData
  g_span_meet : mg "span_meet" = some (.ref a_span_meet)
  u_span_meet : Fun K "span_meet" "span_meet" sspan_meet a_span_meet d_span_meet
  k_span_meet : PySem.W.keepIn K (.ref a_span_meet) = true
  a_span_cover : Addr
  d_span_cover : FuncData
  g_span_cover : mg "span_cover" = some (.ref a_span_cover)
  u_span_cover : Fun K "span_cover" "span_cover" sspan_cover a_span_cover d_span_cover
  k_span_cover : PySem.W.keepIn K (.ref a_span_cover) = true
  a_span_moment : Addr
  d_span_moment : FuncData
  g_span_moment : mg "span_moment" = some (.ref a_span_moment)
  u_span_moment : Fun K "span_moment" "span_moment" sspan_moment a_span_moment d_span_moment
  k_span_moment : PySem.W.keepIn K (.ref a_span_moment) = true
  a__law_box : Addr
  d__law_box : FuncData
  g__law_box : mg "_law_box" = some (.ref a__law_box)
  u__law_box : Fun K "_law_box" "_law_box" s_law_box a__law_box d__law_box
  k__law_box : PySem.W.keepIn K (.ref a__law_box) = true
  a__law_draw : Addr
  d__law_draw : FuncData
  g__law_draw : mg "_law_draw" = some (.ref a__law_draw)
  u__law_draw : Fun K "_law_draw" "_law_draw" s_law_draw a__law_draw d__law_draw
  k__law_draw : PySem.W.keepIn K (.ref a__law_draw) = true
  a__law_pick : Addr
  d__law_pick : FuncData
  g__law_pick : mg "_law_pick" = some (.ref a__law_pick)
  u__law_pick : Fun K "_law_pick" "_law_pick" s_law_pick a__law_pick d__law_pick
  k__law_pick : PySem.W.keepIn K (.ref a__law_pick) = true
  a__law_same : Addr
  d__law_same : FuncData
  g__law_same : mg "_law_same" = some (.ref a__law_same)
  u__law_same : Fun K "_law_same" "_law_same" s_law_same a__law_same d__law_same
  k__law_same : PySem.W.keepIn K (.ref a__law_same) = true
  a__law_gcd : Addr
  d__law_gcd : FuncData
  g__law_gcd : mg "_law_gcd" = some (.ref a__law_gcd)
  u__law_gcd : Fun K "_law_gcd" "_law_gcd" s_law_gcd a__law_gcd d__law_gcd
  k__law_gcd : PySem.W.keepIn K (.ref a__law_gcd) = true
  a__law_lowest : Addr
  d__law_lowest : FuncData
  g__law_lowest : mg "_law_lowest" = some (.ref a__law_lowest)
  u__law_lowest : Fun K "_law_lowest" "_law_lowest" s_law_lowest a__law_lowest d__law_lowest
  k__law_lowest : PySem.W.keepIn K (.ref a__law_lowest) = true
  a__law_limit : Addr
  d__law_limit : FuncData
  g__law_limit : mg "_law_limit" = some (.ref a__law_limit)
  u__law_limit : Fun K "_law_limit" "_law_limit" s_law_limit a__law_limit d__law_limit
  k__law_limit : PySem.W.keepIn K (.ref a__law_limit) = true
  a__law_span : Addr
  d__law_span : FuncData
  g__law_span : mg "_law_span" = some (.ref a__law_span)
  u__law_span : Fun K "_law_span" "_law_span" s_law_span a__law_span d__law_span
  k__law_span : PySem.W.keepIn K (.ref a__law_span) = true
  a__law_nearby : Addr
  d__law_nearby : FuncData
  g__law_nearby : mg "_law_nearby" = some (.ref a__law_nearby)
  u__law_nearby : Fun K "_law_nearby" "_law_nearby" s_law_nearby a__law_nearby d__law_nearby
  k__law_nearby : PySem.W.keepIn K (.ref a__law_nearby) = true
  a__law_holds : Addr
  d__law_holds : FuncData
  g__law_holds : mg "_law_holds" = some (.ref a__law_holds)
  u__law_holds : Fun K "_law_holds" "_law_holds" s_law_holds a__law_holds d__law_holds
  k__law_holds : PySem.W.keepIn K (.ref a__law_holds) = true
  a__law_built : Addr
  d__law_built : FuncData
  g__law_built : mg "_law_built" = some (.ref a__law_built)
  u__law_built : Fun K "_law_built" "_law_built" s_law_built a__law_built d__law_built
  k__law_built : PySem.W.keepIn K (.ref a__law_built) = true
  a__law_wrong : Addr
  d__law_wrong : FuncData
  g__law_wrong : mg "_law_wrong" = some (.ref a__law_wrong)
  u__law_wrong : Fun K "_law_wrong" "_law_wrong" s_law_wrong a__law_wrong d__law_wrong
  k__law_wrong : PySem.W.keepIn K (.ref a__law_wrong) = true
  a__law_met : Addr
  d__law_met : FuncData
  g__law_met : mg "_law_met" = some (.ref a__law_met)
  u__law_met : Fun K "_law_met" "_law_met" s_law_met a__law_met d__law_met
  k__law_met : PySem.W.keepIn K (.ref a__law_met) = true
  a__law_covered : Addr
  d__law_covered : FuncData
  g__law_covered : mg "_law_covered" = some (.ref a__law_covered)
  u__law_covered : Fun K "_law_covered" "_law_covered" s_law_covered a__law_covered d__law_covered
  k__law_covered : PySem.W.keepIn K (.ref a__law_covered) = true
  a__law_hull : Addr
  d__law_hull : FuncData
  g__law_hull : mg "_law_hull" = some (.ref a__law_hull)
  u__law_hull : Fun K "_law_hull" "_law_hull" s_law_hull a__law_hull d__law_hull
  k__law_hull : PySem.W.keepIn K (.ref a__law_hull) = true
  a__law_top : Addr
  d__law_top : FuncData
  g__law_top : mg "_law_top" = some (.ref a__law_top)
  u__law_top : Fun K "_law_top" "_law_top" s_law_top a__law_top d__law_top
  k__law_top : PySem.W.keepIn K (.ref a__law_top) = true
  a__law_joins_hold : Addr
  d__law_joins_hold : FuncData
  g__law_joins_hold : mg "_law_joins_hold" = some (.ref a__law_joins_hold)
  u__law_joins_hold : Fun K "_law_joins_hold" "_law_joins_hold" s_law_joins_hold a__law_joins_hold d__law_joins_hold
  k__law_joins_hold : PySem.W.keepIn K (.ref a__law_joins_hold) = true
  a__law_moment_of : Addr
  d__law_moment_of : FuncData
  g__law_moment_of : mg "_law_moment_of" = some (.ref a__law_moment_of)
  u__law_moment_of : Fun K "_law_moment_of" "_law_moment_of" s_law_moment_of a__law_moment_of d__law_moment_of
  k__law_moment_of : PySem.W.keepIn K (.ref a__law_moment_of) = true
  a_law : Addr
  d_law : FuncData
  g_law : mg "law" = some (.ref a_law)
  u_law : Fun K "law" "law" slaw a_law d_law
  k_law : PySem.W.keepIn K (.ref a_law) = true
section
variable {P : Program} {w : World} {K : PySem.W.Frag} {mg : Str → Option Value} {base : Heap}
theorem in_InvalidMoment (T : Tx K mg) : FnOk P w K mg base (L2N.CX P w) 1 T.ci_InvalidMoment T.di_InvalidMoment ["self", "value"] (spI1 K T.c_InvalidMoment "value") := by
  refine fun_okN T.u_InvalidMoment scInvalidMoment (fun vs H Q E h => ?_) fun cdv A outer s H vs Q E hr h => ⟨_, pss_one (ps_ost (pv 0) (pv 1)), read_I1 h rfl⟩
  obtain ⟨a, y, rfl, _⟩ := h
  rfl
theorem bi_InvalidMoment (T : Tx K mg) : Binds K T.di_InvalidMoment ["self", "value"] [] := T.u_InvalidMoment.binds fun _ _ _ _ _ _ us hl => match us, hl with | [_, _], _ => rfl
theorem in_InvalidSpan (T : Tx K mg) : FnOk P w K mg base (L2N.CX P w) 1 T.ci_InvalidSpan T.di_InvalidSpan ["self", "value"] (spI1 K T.c_InvalidSpan "value") := by
  refine fun_okN T.u_InvalidSpan scInvalidSpan (fun vs H Q E h => ?_) fun cdv A outer s H vs Q E hr h => ⟨_, pss_one (ps_ost (pv 0) (pv 1)), read_I1 h rfl⟩
  obtain ⟨a, y, rfl, _⟩ := h
  rfl
theorem bi_InvalidSpan (T : Tx K mg) : Binds K T.di_InvalidSpan ["self", "value"] [] := T.u_InvalidSpan.binds fun _ _ _ _ _ _ us hl => match us, hl with | [_, _], _ => rfl
theorem in_InvalidTable (T : Tx K mg) : FnOk P w K mg base (L2N.CX P w) 1 T.ci_InvalidTable T.di_InvalidTable ["self", "value"] (spI1 K T.c_InvalidTable "value") := by
  refine fun_okN T.u_InvalidTable scInvalidTable (fun vs H Q E h => ?_) fun cdv A outer s H vs Q E hr h => ⟨_, pss_one (ps_ost (pv 0) (pv 1)), read_I1 h rfl⟩
  obtain ⟨a, y, rfl, _⟩ := h
  rfl
theorem bi_InvalidTable (T : Tx K mg) : Binds K T.di_InvalidTable ["self", "value"] [] := T.u_InvalidTable.binds fun _ _ _ _ _ _ us hl => match us, hl with | [_, _], _ => rfl
theorem bd_is_whole (T : Tx K mg) : Binds K T.d_is_whole ["value"] [] := T.u_is_whole.binds fun _ _ _ _ _ _ us hl => match us, hl with | [_], _ => rfl
theorem bd_is_tuple_of (T : Tx K mg) : Binds K T.d_is_tuple_of ["size", "value"] [] := T.u_is_tuple_of.binds fun _ _ _ _ _ _ us hl => match us, hl with | [_, _], _ => rfl
theorem bd_in_lowest_terms (T : Tx K mg) : Binds K T.d_in_lowest_terms ["numerator", "denominator"] [] := T.u_in_lowest_terms.binds fun _ _ _ _ _ _ us hl => match us, hl with | [_, _], _ => rfl
theorem bd_compared (T : Tx K mg) : Binds K T.d_compared ["first", "second"] [] := T.u_compared.binds fun _ _ _ _ _ _ us hl => match us, hl with | [_, _], _ => rfl
theorem bd_halfway (T : Tx K mg) : Binds K T.d_halfway ["first", "second"] [] := T.u_halfway.binds fun _ _ _ _ _ _ us hl => match us, hl with | [_, _], _ => rfl
theorem bd_is_edge (T : Tx K mg) : Binds K T.d_is_edge ["value"] [] := T.u_is_edge.binds fun _ _ _ _ _ _ us hl => match us, hl with | [_], _ => rfl
theorem bd_is_span (T : Tx K mg) : Binds K T.d_is_span ["value"] [] := T.u_is_span.binds fun _ _ _ _ _ _ us hl => match us, hl with | [_], _ => rfl
theorem bd_has_moment (T : Tx K mg) : Binds K T.d_has_moment ["low", "high"] [] := T.u_has_moment.binds fun _ _ _ _ _ _ us hl => match us, hl with | [_, _], _ => rfl
theorem bd_in_span (T : Tx K mg) : Binds K T.d_in_span ["moment", "span"] [] := T.u_in_span.binds fun _ _ _ _ _ _ us hl => match us, hl with | [_, _], _ => rfl
theorem bd_low_order (T : Tx K mg) : Binds K T.d_low_order ["edge"] [] := T.u_low_order.binds fun _ _ _ _ _ _ us hl => match us, hl with | [_], _ => rfl
theorem bd_span_moment (T : Tx K mg) : Binds K T.d_span_moment ["span"] [] := T.u_span_moment.binds fun _ _ _ _ _ _ us hl => match us, hl with | [_], _ => rfl
theorem bd__law_box (T : Tx K mg) : Binds K T.d__law_box ["script"] [] := T.u__law_box.binds fun _ _ _ _ _ _ us hl => match us, hl with | [_], _ => rfl
theorem bd__law_draw (T : Tx K mg) : Binds K T.d__law_draw ["box", "size"] [] := T.u__law_draw.binds fun _ _ _ _ _ _ us hl => match us, hl with | [_, _], _ => rfl
theorem bd__law_pick (T : Tx K mg) : Binds K T.d__law_pick ["box", "row"] [] := T.u__law_pick.binds fun _ _ _ _ _ _ us hl => match us, hl with | [_, _], _ => rfl
theorem bd__law_same (T : Tx K mg) : Binds K T.d__law_same ["actual", "due"] [] := T.u__law_same.binds fun _ _ _ _ _ _ us hl => match us, hl with | [_, _], _ => rfl
theorem bd__law_gcd (T : Tx K mg) : Binds K T.d__law_gcd ["first", "second"] [] := T.u__law_gcd.binds fun _ _ _ _ _ _ us hl => match us, hl with | [_, _], _ => rfl
theorem bd__law_lowest (T : Tx K mg) : Binds K T.d__law_lowest ["top", "bottom"] [] := T.u__law_lowest.binds fun _ _ _ _ _ _ us hl => match us, hl with | [_, _], _ => rfl
theorem bd__law_limit (T : Tx K mg) : Binds K T.d__law_limit ["box"] [] := T.u__law_limit.binds fun _ _ _ _ _ _ us hl => match us, hl with | [_], _ => rfl
theorem bd__law_span (T : Tx K mg) : Binds K T.d__law_span ["box"] [] := T.u__law_span.binds fun _ _ _ _ _ _ us hl => match us, hl with | [_], _ => rfl
theorem bd__law_nearby (T : Tx K mg) : Binds K T.d__law_nearby ["box", "spans"] [] := T.u__law_nearby.binds fun _ _ _ _ _ _ us hl => match us, hl with | [_, _], _ => rfl
theorem bd__law_holds (T : Tx K mg) : Binds K T.d__law_holds ["pair", "one"] [] := T.u__law_holds.binds fun _ _ _ _ _ _ us hl => match us, hl with | [_, _], _ => rfl
theorem bd__law_built (T : Tx K mg) : Binds K T.d__law_built ["box", "pair"] [] := T.u__law_built.binds fun _ _ _ _ _ _ us hl => match us, hl with | [_, _], _ => rfl
theorem bd__law_wrong (T : Tx K mg) : Binds K T.d__law_wrong ["box"] [] := T.u__law_wrong.binds fun _ _ _ _ _ _ us hl => match us, hl with | [_], _ => rfl
theorem bd__law_met (T : Tx K mg) : Binds K T.d__law_met ["row"] [] := T.u__law_met.binds fun _ _ _ _ _ _ us hl => match us, hl with | [_], _ => rfl
theorem bd__law_covered (T : Tx K mg) : Binds K T.d__law_covered ["row"] [] := T.u__law_covered.binds fun _ _ _ _ _ _ us hl => match us, hl with | [_], _ => rfl
theorem bd__law_hull (T : Tx K mg) : Binds K T.d__law_hull ["halves", "last"] [] := T.u__law_hull.binds fun _ _ _ _ _ _ us hl => match us, hl with | [_, _], _ => rfl
theorem bd__law_top (T : Tx K mg) : Binds K T.d__law_top ["row"] [] := T.u__law_top.binds fun _ _ _ _ _ _ us hl => match us, hl with | [_], _ => rfl
theorem bd__law_joins_hold (T : Tx K mg) : Binds K T.d__law_joins_hold ["row"] [] := T.u__law_joins_hold.binds fun _ _ _ _ _ _ us hl => match us, hl with | [_], _ => rfl
theorem bd__law_moment_of (T : Tx K mg) : Binds K T.d__law_moment_of ["pair"] [] := T.u__law_moment_of.binds fun _ _ _ _ _ _ us hl => match us, hl with | [_], _ => rfl
theorem bd_law (T : Tx K mg) : Binds K T.d_law ["script"] [] := T.u_law.binds fun _ _ _ _ _ _ us hl => match us, hl with | [_], _ => rfl
theorem ok_is_whole (T : Tx K mg) : FnZ P w K mg base 1 T.a_is_whole T.d_is_whole ["value"] Fis_whole := by
  exact fn_ok T.u_is_whole (k := 0) scis_whole (by decide) fun cdv A outer s H E hr tk =>
    ss_one (s_ret (e_and (e_isi .int rfl (by rfl) T.b_isinstance (by rfl) T.b_int (ev 0)) (e_one (e_not (e_isi .bool rfl (by rfl) T.b_isinstance (by rfl) T.b_bool (ev 0))))))
theorem ok_is_tuple_of (T : Tx K mg) : FnZ P w K mg base 1 T.a_is_tuple_of T.d_is_tuple_of ["size", "value"] Fis_tuple_of := by
  exact fn_ok T.u_is_tuple_of (k := 0) scis_tuple_of (by decide) fun cdv A outer s H E hr tk =>
    ss_one (s_ret (e_and (e_isi .tup rfl (by rfl) T.b_isinstance (by rfl) T.b_tuple (ev 1)) (e_one (e_cmp (oEq hr.units) sEq (e_cb call_len sLen (by rfl) T.b_len (by decide +kernel) (a_cons (ev 1) (a_nil))) (ev 0)))))
theorem ok_in_lowest_terms (T : Tx K mg) : FnZ P w K mg base 1 T.a_in_lowest_terms T.d_in_lowest_terms ["numerator", "denominator"] Fin_lowest_terms := by
  exact fn_ok T.u_in_lowest_terms (k := 0) scin_lowest_terms (by decide) fun cdv A outer s H E hr tk =>
    ss_cons (s_set (i := 2) scin_lowest_terms.nd (e_cf cr_gcd sGcd (by rfl) T.b_gcd (a_cons (ev 0) (a_cons (ev 1) (a_nil))))) (ss_one (s_ret (e_tup (a_cons (e_op op_fdivW sDiv (ev 0) (ev 2)) (a_cons (e_op op_fdivW sDiv (ev 1) (ev 2)) (a_nil))))))
theorem ok_added (T : Tx K mg) : FnY P w K mg base 2 T.a_added Fadded := by
  have G_in_lowest_terms := ok_in_lowest_terms (P := P) (w := w) (base := base) T
  exact fn_okY (ps := []) (pv := "moments") (k := 1) T.u_added scadded (by decide) (fun _ _ _ _ _ _ us rest hl => match us, rest, hl with | [], [], _ => rfl | [], _ :: _, _ => rfl) fun cdv A outer s H E hr tk =>
    ss_cons (s_set (i := 1) scadded.nd (e_tup (a_cons (ec_int) (a_cons (ec_int) (a_nil))))) (ss_cons (s_for rfl (i_any (ev 0)) (g_t rfl (gs_cons (g_n 2 scadded.nd) (gs_cons (g_n 3 scadded.nd) (gs_nil)))) (ss_one (s_set (i := 1) scadded.nd (e_call G_in_lowest_terms (hr.mono (by omega)) T.g_in_lowest_terms T.k_in_lowest_terms (bd_in_lowest_terms T) .nil .nil tk (a_cons (e_op oPlus sPlus (e_op oMul sMul (e_ix ix_seq sIx (ev 1) (ec_int)) (ev 3)) (e_op oMul sMul (ev 2) (e_ix ix_seq sIx (ev 1) (ec_int)))) (a_cons (e_op oMul sMul (e_ix ix_seq sIx (ev 1) (ec_int)) (ev 3)) (a_nil)))))) (passes_of rfl)) (ss_one (s_ret (ev 1))))
theorem ok_compared (T : Tx K mg) : FnZ P w K mg base 1 T.a_compared T.d_compared ["first", "second"] Fcompared := by
  exact fn_ok T.u_compared (k := 0) sccompared (by decide) fun cdv A outer s H E hr tk =>
    ss_cons (s_set (i := 2) sccompared.nd (e_op op_sub sSub (e_op oMul sMul (e_ix ix_seq sIx (ev 0) (ec_int)) (e_ix ix_seq sIx (ev 1) (ec_int))) (e_op oMul sMul (e_ix ix_seq sIx (ev 1) (ec_int)) (e_ix ix_seq sIx (ev 0) (ec_int))))) (ss_cons (s_if (t_cmp op_lt sLt (ev 2) (ec_int)) (ss_one (s_ret (e_un un_neg sNeg (ec_int)))) (ss_nil)) (ss_one (s_ret (e_if (t_cmp op_gt sGt (ev 2) (ec_int)) (ec_int) (ec_int)))))
theorem ok_halfway (T : Tx K mg) : FnZ P w K mg base 3 T.a_halfway T.d_halfway ["first", "second"] Fhalfway := by
  have G_added := ok_added (P := P) (w := w) (base := base) T
  have G_in_lowest_terms := ok_in_lowest_terms (P := P) (w := w) (base := base) T
  exact fn_ok T.u_halfway (k := 2) schalfway (by decide) fun cdv A outer s H E hr tk =>
    ss_cons (s_asg (e_callY G_added (hr.mono (by omega)) T.g_added T.k_added tk (a_cons (ev 0) (a_cons (ev 1) (a_nil)))) (g_t rfl (gs_cons (g_n 2 schalfway.nd) (gs_cons (g_n 3 schalfway.nd) (gs_nil))))) (ss_one (s_ret (e_call G_in_lowest_terms (hr.mono (by omega)) T.g_in_lowest_terms T.k_in_lowest_terms (bd_in_lowest_terms T) .nil .nil tk (a_cons (ev 2) (a_cons (e_op oMul sMul (ec_int) (ev 3)) (a_nil))))))
theorem ok_is_edge (T : Tx K mg) : FnZ P w K mg base 2 T.a_is_edge T.d_is_edge ["value"] Fis_edge := by
  have G_is_tuple_of := ok_is_tuple_of (P := P) (w := w) (base := base) T
  have G_is_whole := ok_is_whole (P := P) (w := w) (base := base) T
  exact fn_ok T.u_is_edge (k := 1) scis_edge (by decide) fun cdv A outer s H E hr tk =>
    ss_cons (s_if (t_not (t_B (e_call G_is_tuple_of (hr.mono (by omega)) T.g_is_tuple_of T.k_is_tuple_of (bd_is_tuple_of T) .nil .nil tk (a_cons (ec_int) (a_cons (ev 0) (a_nil)))))) (ss_one (s_ret (ec_bl))) (ss_nil)) (ss_cons (s_asg (ev 0) (g_t rfl (gs_cons (g_n 1 scis_edge.nd) (gs_cons (g_n 2 scis_edge.nd) (gs_nil))))) (ss_one (s_ret (e_and (e_call G_is_whole (hr.mono (by omega)) T.g_is_whole T.k_is_whole (bd_is_whole T) .nil .nil tk (a_cons (ev 1) (a_nil))) (e_and (e_call G_is_whole (hr.mono (by omega)) T.g_is_whole T.k_is_whole (bd_is_whole T) .nil .nil tk (a_cons (ev 2) (a_nil))) (e_one (e_cmp oInT sInT (ev 2) (e_tup (a_cons (ec_int) (a_cons (ec_int) (a_nil)))) (by rfl))))))))
theorem ok_has_moment (T : Tx K mg) : FnZ P w K mg base 1 T.a_has_moment T.d_has_moment ["low", "high"] Fhas_moment := by
  exact fn_ok T.u_has_moment (k := 0) schas_moment (by decide) fun cdv A outer s H E hr tk =>
    ss_cons (s_if (PW.pt (w_or (t_isN (ev 1)) (w_or1 (t_cmp op_gt sGt (e_ix ix_seq sIx (ev 1) (ec_int)) (e_ix ix_seq sIx (ev 0) (ec_int)))))) (ss_one (s_ret (ec_bl))) (ss_nil)) (ss_one (s_ret (e_and (e_cmp (oEq hr.units) sEq (e_ix ix_seq sIx (ev 1) (ec_int)) (e_ix ix_seq sIx (ev 0) (ec_int))) (e_and (e_cmp (oEq hr.units) sEq (e_ix ix_seq sIx (ev 1) (ec_int)) (ec_int)) (e_one (e_cmp (oEq hr.units) sEq (e_ix ix_seq sIx (ev 0) (ec_int)) (ec_int)))))))
theorem ok_is_span (T : Tx K mg) : FnZ P w K mg base 3 T.a_is_span T.d_is_span ["value"] Fis_span := by
  have G_has_moment := ok_has_moment (P := P) (w := w) (base := base) T
  have G_is_edge := ok_is_edge (P := P) (w := w) (base := base) T
  have G_is_tuple_of := ok_is_tuple_of (P := P) (w := w) (base := base) T
  exact fn_ok T.u_is_span (k := 2) scis_span (by decide) fun cdv A outer s H E hr tk =>
    ss_cons (s_if (t_not (t_B (e_call G_is_tuple_of (hr.mono (by omega)) T.g_is_tuple_of T.k_is_tuple_of (bd_is_tuple_of T) .nil .nil tk (a_cons (ec_int) (a_cons (ev 0) (a_nil)))))) (ss_one (s_ret (ec_bl))) (ss_nil)) (ss_cons (s_asg (ev 0) (g_t rfl (gs_cons (g_n 1 scis_span.nd) (gs_cons (g_n 2 scis_span.nd) (gs_nil))))) (ss_cons (s_if (t_not (PW.pt (w_and (t_B (e_call G_is_edge (hr.mono (by omega)) T.g_is_edge T.k_is_edge (bd_is_edge T) .nil .nil tk (a_cons (ev 1) (a_nil)))) (w_and1 (t_cmp op_ge sGe (e_ix ix_seq sIx (ev 1) (ec_int)) (ec_int)))))) (ss_one (s_ret (ec_bl))) (ss_nil)) (ss_one (s_ret (e_or (e_isN (ev 2)) (e_one (e_and (e_call G_is_edge (hr.mono (by omega)) T.g_is_edge T.k_is_edge (bd_is_edge T) .nil .nil tk (a_cons (ev 2) (a_nil))) (e_one (e_call G_has_moment (hr.mono (by omega)) T.g_has_moment T.k_has_moment (bd_has_moment T) .nil .nil tk (a_cons (ev 1) (a_cons (ev 2) (a_nil))))))))))))
theorem ok_span (T : Tx K mg) : FnZ P w K mg base 4 T.a_span T.d_span ["low", "high", "low_reach", "high_reach"] Fspan := by
  have G_is_span := ok_is_span (P := P) (w := w) (base := base) T
  exact fn_okD T.u_span (k := 3) scspan (by decide) fun cdv A outer s H E hr tk =>
    ss_cons (s_set (i := 4) scspan.nd (e_tup (a_cons (e_tup (a_cons (ev 0) (a_cons (ev 2) (a_nil)))) (a_cons (e_if (t_isN (ev 1)) (ec_non) (e_tup (a_cons (ev 1) (a_cons (ev 3) (a_nil))))) (a_nil))))) (ss_cons (s_if (t_not (t_B (e_call G_is_span (hr.mono (by omega)) T.g_is_span T.k_is_span (bd_is_span T) .nil .nil tk (a_cons (ev 4) (a_nil))))) (ss_one (s_raise1 T.e_InvalidSpan T.i_InvalidSpan T.t_InvalidSpan (in_InvalidSpan T) (hr.mono (by omega)) (bi_InvalidSpan T) tk (a_cons (ev 4) (a_nil)))) (ss_nil)) (ss_one (s_ret (ev 4))))
theorem ok_in_span (T : Tx K mg) : FnZ P w K mg base 2 T.a_in_span T.d_in_span ["moment", "span"] Fin_span := by
  have G_compared := ok_compared (P := P) (w := w) (base := base) T
  exact fn_ok T.u_in_span (k := 1) scin_span (by decide) fun cdv A outer s H E hr tk =>
    ss_cons (s_asg (ev 1) (g_t rfl (gs_cons (g_n 2 scin_span.nd) (gs_cons (g_n 3 scin_span.nd) (gs_nil))))) (ss_cons (s_set (i := 4) scin_span.nd (e_call G_compared (hr.mono (by omega)) T.g_compared T.k_compared (bd_compared T) .nil .nil tk (a_cons (ev 0) (a_cons (e_tup (a_cons (e_ix ix_seq sIx (ev 2) (ec_int)) (a_cons (ec_int) (a_nil)))) (a_nil))))) (ss_cons (s_if (PW.pt (w_or (t_cmp op_lt sLt (ev 4) (ec_int)) (w_or1 (PW.pt (w_and (t_cmp (oEq hr.units) sEq (ev 4) (ec_int)) (w_and1 (t_cmp (oEq hr.units) sEq (e_ix ix_seq sIx (ev 2) (ec_int)) (ec_int)))))))) (ss_one (s_ret (ec_bl))) (ss_nil)) (ss_cons (s_if (t_isN (ev 3)) (ss_one (s_ret (ec_bl))) (ss_nil)) (ss_cons (s_set (i := 4) scin_span.nd (e_call G_compared (hr.mono (by omega)) T.g_compared T.k_compared (bd_compared T) .nil .nil tk (a_cons (ev 0) (a_cons (e_tup (a_cons (e_ix ix_seq sIx (ev 3) (ec_int)) (a_cons (ec_int) (a_nil)))) (a_nil))))) (ss_one (s_ret (e_or (e_cmp op_lt sLt (ev 4) (ec_int)) (e_one (e_and (e_cmp (oEq hr.units) sEq (ev 4) (ec_int)) (e_one (e_cmp (oEq hr.units) sEq (e_ix ix_seq sIx (ev 3) (ec_int)) (ec_int))))))))))))
theorem ok_low_order (T : Tx K mg) : FnZ P w K mg base 1 T.a_low_order T.d_low_order ["edge"] Flow_order := by
  exact fn_ok T.u_low_order (k := 0) sclow_order (by decide) fun cdv A outer s H E hr tk =>
    ss_one (s_ret (e_tup (a_cons (e_ix ix_seq sIx (ev 0) (ec_int)) (a_cons (e_un un_neg sNeg (e_ix ix_seq sIx (ev 0) (ec_int))) (a_nil)))))
theorem ok_span_meet (T : Tx K mg) : FnY P w K mg base 3 T.a_span_meet Fspan_meet := by
  have G_has_moment := ok_has_moment (P := P) (w := w) (base := base) T
  have G_low_order := ok_low_order (P := P) (w := w) (base := base) T
  exact fn_okY (ps := []) (pv := "spans") (k := 2) T.u_span_meet scspan_meet (by decide) (fun _ _ _ _ _ _ us rest hl => match us, rest, hl with | [], [], _ => rfl | [], _ :: _, _ => rfl) fun cdv A outer s H E hr tk =>
    ss_cons (s_asg (e_glob (v := L2.V.ref T.w_EVER) (by rfl) T.v_EVER rfl T.r_EVER) (g_t rfl (gs_cons (g_n 1 scspan_meet.nd) (gs_cons (g_n 2 scspan_meet.nd) (gs_nil))))) (ss_cons (s_for rfl (i_any (ev 0)) (g_t rfl (gs_cons (g_n 3 scspan_meet.nd) (gs_cons (g_n 4 scspan_meet.nd) (gs_nil)))) (ss_cons (s_set (i := 1) scspan_meet.nd (e_maxK2 G_low_order (hr.mono (by omega)) (bd_low_order T) T.g_low_order T.b_max rfl (a_cons (ev 1) (a_cons (ev 3) (a_nil))))) (ss_one (s_if (PW.pt (w_or (t_isN (ev 2)) (w_or1 (PW.pt (w_and (t_notN (ev 4)) (w_and1 (t_cmp (oLtD hr.units) sLtD (ev 4) (ev 2)))))))) (ss_one (s_set (i := 2) scspan_meet.nd (ev 4))) (ss_nil)))) (passes_of rfl)) (ss_one (s_ret (e_if (t_B (e_call G_has_moment (hr.mono (by omega)) T.g_has_moment T.k_has_moment (bd_has_moment T) .nil .nil tk (a_cons (ev 1) (a_cons (ev 2) (a_nil))))) (e_tup (a_cons (ev 1) (a_cons (ev 2) (a_nil)))) (ec_non)))))
theorem ok_span_cover (T : Tx K mg) : FnY P w K mg base 3 T.a_span_cover Fspan_cover := by
  have G_low_order := ok_low_order (P := P) (w := w) (base := base) T
  exact fn_okY (ps := []) (pv := "spans") (k := 2) T.u_span_cover scspan_cover (by decide) (fun _ _ _ _ _ _ us rest hl => match us, rest, hl with | [], [], _ => rfl | [], _ :: _, _ => rfl) fun cdv A outer s H E hr tk =>
    ss_cons (s_if (t_not (t_Tr (ev 0))) (ss_one (s_ret (ec_non))) (ss_nil)) (ss_cons (s_set (i := 1) scspan_cover.nd (e_minK1 G_low_order (hr.mono (by omega)) (bd_low_order T) T.g_low_order T.b_min rfl (a_cons (e_lc (own := [("one", 2)]) false rfl scspan_cover.nd (i_any (ev 0)) (blkOk_by (N := Nspan_cover) (sc := defScope sspan_cover) (by decide +kernel)) (fun _ _ _ _ _ => by exact g_n 2 scspan_cover.nd) (fun _ _ _ _ _ => by exact ts_nil) (fun _ _ _ _ _ => by exact e_ix ix_seq sIx (ev 2) (ec_int)) (by decide)) (a_nil)))) (ss_cons (s_setLc (own := [("one", 2)]) false (i := 3) rfl scspan_cover.nd rfl rfl (sw_true rfl rfl rfl (by decide +kernel)) (i_any (ev 0)) (blkOk_by (N := Nspan_cover) (sc := defScope sspan_cover) (by decide +kernel)) (fun _ _ _ _ _ => by exact g_n 2 scspan_cover.nd) (fun _ _ _ _ _ => by exact ts_nil) (fun _ _ _ _ _ => by exact e_ix ix_seq sIx (ev 2) (ec_int)) (by decide)) (ss_one (s_ret (e_tup (a_cons (ev 1) (a_cons (e_if (t_cmp (op_inD (room66 hr)) sInD (ec_non) (ev 3) (by rfl)) (ec_non) (e_cb (cr_maxD rfl (room65 hr)) sBestD (by rfl) T.b_max (by decide +kernel) (a_cons (ev 3) (a_nil)))) (a_nil))))))))
theorem ok_span_moment (T : Tx K mg) : FnZ P w K mg base 4 T.a_span_moment T.d_span_moment ["span"] Fspan_moment := by
  have G_halfway := ok_halfway (P := P) (w := w) (base := base) T
  exact fn_ok T.u_span_moment (k := 3) scspan_moment (by decide) fun cdv A outer s H E hr tk =>
    ss_cons (s_asg (ev 0) (g_t rfl (gs_cons (g_n 1 scspan_moment.nd) (gs_cons (g_n 2 scspan_moment.nd) (gs_nil))))) (ss_cons (s_if (t_cmp (oEq hr.units) sEq (e_ix ix_seq sIx (ev 1) (ec_int)) (ec_int)) (ss_one (s_ret (e_tup (a_cons (e_ix ix_seq sIx (ev 1) (ec_int)) (a_cons (ec_int) (a_nil)))))) (ss_nil)) (ss_cons (s_if (t_isN (ev 2)) (ss_one (s_ret (e_tup (a_cons (e_op oPlus sPlus (e_ix ix_seq sIx (ev 1) (ec_int)) (ec_int)) (a_cons (ec_int) (a_nil)))))) (ss_nil)) (ss_one (s_ret (e_call G_halfway (hr.mono (by omega)) T.g_halfway T.k_halfway (bd_halfway T) .nil .nil tk (a_cons (e_tup (a_cons (e_ix ix_seq sIx (ev 1) (ec_int)) (a_cons (ec_int) (a_nil)))) (a_cons (e_tup (a_cons (e_ix ix_seq sIx (ev 2) (ec_int)) (a_cons (ec_int) (a_nil)))) (a_nil))))))))
theorem ok__law_box (T : Tx K mg) : FnZ P w K mg base 1 T.a__law_box T.d__law_box ["script"] F_law_box := by
  exact fn_ok T.u__law_box (k := 0) sc_law_box (by decide) fun cdv A outer s H E hr tk =>
    ss_cons (s_set (i := 1) sc_law_box.nd (e_lst true (a_nil))) (ss_cons (s_set (i := 2) sc_law_box.nd (e_op oPlus sPlus (ec_int) (e_cb call_len sLen (by rfl) T.b_len (by decide +kernel) (a_cons (e_sl false (ev 0) (o_none) (o_some (ec_int))) (a_nil))))) (ss_cons (s_for rfl (i_any (e_sl false (ev 0) (o_none) (o_some (ec_int)))) (g_n 3 sc_law_box.nd) (ss_one (s_if (t_cmp op_ge sGe (ev 3) (e_op op_pow sPow (ec_int) (ec_int))) (ss_one (s_expr (e_bm .list PySem.F.plainAttrs_list PySem.F.slot_list_append PySem.F.type_list_append mt_append sApp (ev 1) (a_cons (ev 3) (a_nil))))) (ss_one (s_set (i := 2) sc_law_box.nd (e_op op_mod sMod (e_ct cr_intT sIntT (by rfl) T.b_int (by decide +kernel) (a_cons (e_op oPlus sPlus (e_op oPlus sPlus (e_op oMul sMul (ev 2) (ec_int)) (e_op oMul sMul (ev 3) (ec_int))) (ec_int)) (a_nil))) (ec_int)))))) (passes_of rfl)) (ss_cons (s_expr (e_bm0 .list PySem.F.plainAttrs_list PySem.F.slot_list_reverse PySem.F.type_list_reverse mt_reverse sRevM (ev 1))) (ss_one (s_ret (e_lst true (a_cons (ec_int) (a_cons (ev 1) (a_cons (ev 2) (a_cons (ec_int) (a_nil)))))))))))
theorem ok__law_draw (T : Tx K mg) : FnZ P w K mg base 1 T.a__law_draw T.d__law_draw ["box", "size"] F_law_draw := by
  exact fn_ok T.u__law_draw (k := 0) sc_law_draw (by decide) fun cdv A outer s H E hr tk =>
    ss_cons (s_if (PW.pt (w_and (t_cmp op_lt sLt (e_ix ix_seq sIx (ev 0) (ec_int)) (ec_int)) (w_and1 (t_cmp (oNe hr.units) sNe (e_ix ix_seq sIx (ev 0) (ec_int)) (e_lst false (a_nil)))))) (ss_one (s_put (pg_sub (ev 0) (ec_int) set_list) (e_bm0 .list PySem.F.plainAttrs_list PySem.F.slot_list_pop PySem.F.type_list_pop mt_pop sPop (e_ix ix_seq sIx (ev 0) (ec_int))) rfl)) (ss_nil)) (ss_cons (s_if (t_cmp op_gt sGt (e_ix ix_seq sIx (ev 0) (ec_int)) (ec_int)) (ss_cons (s_set (i := 2) sc_law_draw.nd (e_op op_mod sMod (e_ct cr_intT sIntT (by rfl) T.b_int (by decide +kernel) (a_cons (e_ix ix_seq sIx (ev 0) (ec_int)) (a_nil))) (ev 1))) (ss_cons (s_put (pg_sub (ev 0) (ec_int) set_list) (e_op op_fdivW sDiv (e_ix ix_seq sIx (ev 0) (ec_int)) (ev 1)) rfl) (ss_one (s_ret (ev 2))))) (ss_nil)) (ss_cons (s_put (pg_sub (ev 0) (ec_int) set_list) (e_op oPlus sPlus (e_ix ix_seq sIx (ev 0) (ec_int)) (ec_int)) rfl) (ss_cons (s_put (pg_sub (ev 0) (ec_int) set_list) (e_op op_mod sMod (e_ct cr_intT sIntT (by rfl) T.b_int (by decide +kernel) (a_cons (e_op oPlus sPlus (e_op oPlus sPlus (e_op oMul sMul (e_ix ix_seq sIx (ev 0) (ec_int)) (ec_int)) (e_op oMul sMul (e_ix ix_seq sIx (ev 0) (ec_int)) (ec_int))) (ec_int)) (a_nil))) (ec_int)) rfl) (ss_cons (s_set (i := 3) sc_law_draw.nd (e_op op_mod sMod (e_ct cr_intT sIntT (by rfl) T.b_int (by decide +kernel) (a_cons (e_op oPlus sPlus (e_op oPlus sPlus (e_op oMul sMul (e_ix ix_seq sIx (ev 0) (ec_int)) (ec_int)) (e_op oMul sMul (e_ix ix_seq sIx (ev 0) (ec_int)) (ec_int))) (ec_int)) (a_nil))) (ec_int))) (ss_one (s_ret (e_op op_mod sMod (e_op op_fdivW sDiv (ev 3) (ec_int)) (ev 1))))))))
theorem ok__law_pick (T : Tx K mg) : FnZ P w K mg base 2 T.a__law_pick T.d__law_pick ["box", "row"] F_law_pick := by
  have G__law_draw := ok__law_draw (P := P) (w := w) (base := base) T
  exact fn_ok T.u__law_pick (k := 1) sc_law_pick (by decide) fun cdv A outer s H E hr tk =>
    ss_one (s_ret (e_ix ix_seq sIx (ev 1) (e_call G__law_draw (hr.mono (by omega)) T.g__law_draw T.k__law_draw (bd__law_draw T) .nil .nil tk (a_cons (ev 0) (a_cons (e_cb call_len sLen (by rfl) T.b_len (by decide +kernel) (a_cons (ev 1) (a_nil))) (a_nil))))))
theorem ok__law_same (T : Tx K mg) : ∀ n : Nat, FnZ P w K mg base (1 + n) T.a__law_same T.d__law_same ["actual", "due"] (F_law_same n)
  | 0 => fn_bad
  | n + 1 => by
    have G__law_same := ok__law_same T n
    exact fn_ok T.u__law_same (k := 1 + n) sc_law_same (by decide) fun cdv A outer s H E hr tk =>
      ss_cons (s_if (t_isN (ev 1)) (ss_one (s_ret (e_isN (ev 0)))) (ss_nil)) (ss_cons (s_if (t_isB (ev 1)) (ss_one (s_ret (e_isB (ev 0)))) (ss_nil)) (ss_cons (s_if (t_isB (ev 1)) (ss_one (s_ret (e_isB (ev 0)))) (ss_nil)) (ss_cons (s_if (t_B (e_isi .tup rfl (by rfl) T.b_isinstance (by rfl) T.b_tuple (ev 1))) (ss_cons (s_if (PW.pt (w_or (t_not (t_B (e_isi .tup rfl (by rfl) T.b_isinstance (by rfl) T.b_tuple (ev 0)))) (w_or1 (t_cmp (oNe hr.units) sNe (e_cb call_len sLen (by rfl) T.b_len (by decide +kernel) (a_cons (ev 0) (a_nil))) (e_cb call_len sLen (by rfl) T.b_len (by decide +kernel) (a_cons (ev 1) (a_nil))))))) (ss_one (s_ret (ec_bl))) (ss_nil)) (ss_one (s_ret (e_cb (cr_all rfl) sAll (by rfl) T.b_all (by decide +kernel) (a_cons (e_lc (own := [("k", 2)]) false rfl sc_law_same.nd (i_rng1 (by rfl) T.b_range (a_cons (e_cb call_len sLen (by rfl) T.b_len (by decide +kernel) (a_cons (ev 1) (a_nil))) (a_nil))) (blkOk_by (N := N_law_same) (sc := defScope s_law_same) (by decide +kernel)) (fun _ _ _ _ _ => by exact g_n 2 sc_law_same.nd) (fun _ _ _ _ _ => by exact ts_nil) (fun _ _ _ _ _ => by exact e_call G__law_same (hr.mono (by omega)) T.g__law_same T.k__law_same (bd__law_same T) .nil .nil takes0N (a_cons (e_ix ix_seq sIx (ev 0) (ev 2)) (a_cons (e_ix ix_seq sIx (ev 1) (ev 2)) (a_nil)))) (by decide)) a_nil))))) (ss_nil)) (ss_cons (s_if (t_B (e_isi .str rfl (by rfl) T.b_isinstance (by rfl) T.b_str (ev 1))) (ss_one (s_ret (e_and (e_isi .str rfl (by rfl) T.b_isinstance (by rfl) T.b_str (ev 0)) (e_one (e_cmp (oEq hr.units) sEq (ev 0) (ev 1)))))) (ss_nil)) (ss_one (s_ret (e_and (e_isi .int rfl (by rfl) T.b_isinstance (by rfl) T.b_int (ev 0)) (e_and (e_not (e_isi .bool rfl (by rfl) T.b_isinstance (by rfl) T.b_bool (ev 0))) (e_one (e_cmp (oEq hr.units) sEq (ev 0) (ev 1)))))))))))
theorem ok__law_gcd (T : Tx K mg) : FnZ P w K mg base 1 T.a__law_gcd T.d__law_gcd ["first", "second"] F_law_gcd := by
  exact fn_ok T.u__law_gcd (k := 0) sc_law_gcd (by decide) fun cdv A outer s H E hr tk =>
    ss_cons (s_while 500 (t_cmp op_gt sGt (ev 1) (ec_int)) (ss_one (s_par (i := 0) (j := 1) rfl sc_law_gcd.nd (by decide) (a_cons (ev 1) (a_cons (e_op op_mod sMod (e_ct cr_intT sIntT (by rfl) T.b_int (by decide +kernel) (a_cons (ev 0) (a_nil))) (ev 1)) (a_nil))))) (passes_of rfl)) (ss_one (s_ret (ev 0)))
theorem ok__law_lowest (T : Tx K mg) : FnZ P w K mg base 2 T.a__law_lowest T.d__law_lowest ["top", "bottom"] F_law_lowest := by
  have G__law_gcd := ok__law_gcd (P := P) (w := w) (base := base) T
  exact fn_ok T.u__law_lowest (k := 1) sc_law_lowest (by decide) fun cdv A outer s H E hr tk =>
    ss_cons (s_set (i := 2) sc_law_lowest.nd (e_call G__law_gcd (hr.mono (by omega)) T.g__law_gcd T.k__law_gcd (bd__law_gcd T) .nil .nil tk (a_cons (ev 0) (a_cons (ev 1) (a_nil))))) (ss_one (s_ret (e_tup (a_cons (e_op op_fdivW sDiv (ev 0) (ev 2)) (a_cons (e_op op_fdivW sDiv (ev 1) (ev 2)) (a_nil))))))
theorem ok__law_limit (T : Tx K mg) : FnZ P w K mg base 3 T.a__law_limit T.d__law_limit ["box"] F_law_limit := by
  have G__law_draw := ok__law_draw (P := P) (w := w) (base := base) T
  have G__law_pick := ok__law_pick (P := P) (w := w) (base := base) T
  exact fn_ok T.u__law_limit (k := 2) sc_law_limit (by decide) fun cdv A outer s H E hr tk =>
    ss_one (s_ret (e_call G__law_draw (hr.mono (by omega)) T.g__law_draw T.k__law_draw (bd__law_draw T) .nil .nil tk (a_cons (ev 0) (a_cons (e_call G__law_pick (hr.mono (by omega)) T.g__law_pick T.k__law_pick (bd__law_pick T) .nil .nil tk (a_cons (ev 0) (a_cons (e_lst false (a_cons (ec_int) (a_cons (ec_int) (a_cons (ec_int) (a_cons (ec_int) (a_nil)))))) (a_nil)))) (a_nil)))))
theorem ok__law_span (T : Tx K mg) : FnZ P w K mg base 4 T.a__law_span T.d__law_span ["box"] F_law_span := by
  have G__law_draw := ok__law_draw (P := P) (w := w) (base := base) T
  have G__law_limit := ok__law_limit (P := P) (w := w) (base := base) T
  have G__law_pick := ok__law_pick (P := P) (w := w) (base := base) T
  exact fn_ok T.u__law_span (k := 3) sc_law_span (by decide) fun cdv A outer s H E hr tk =>
    ss_cons (s_set (i := 1) sc_law_span.nd (e_call G__law_limit (hr.mono (by omega)) T.g__law_limit T.k__law_limit (bd__law_limit T) .nil .nil tk (a_cons (ev 0) (a_nil)))) (ss_cons (s_set (i := 2) sc_law_span.nd (e_call G__law_draw (hr.mono (by omega)) T.g__law_draw T.k__law_draw (bd__law_draw T) .nil .nil tk (a_cons (ev 0) (a_cons (ec_int) (a_nil))))) (ss_cons (s_set (i := 3) sc_law_span.nd (e_call G__law_draw (hr.mono (by omega)) T.g__law_draw T.k__law_draw (bd__law_draw T) .nil .nil tk (a_cons (ev 0) (a_cons (ec_int) (a_nil))))) (ss_cons (s_if (t_cmp (oEq hr.units) sEq (ev 3) (ec_int)) (ss_one (s_ret (e_tup (a_cons (e_tup (a_cons (ev 1) (a_cons (ev 2) (a_nil)))) (a_cons (ec_non) (a_nil)))))) (ss_nil)) (ss_cons (s_if (PW.pt (w_or (t_cmp (oEq hr.units) sEq (ev 3) (ec_int)) (w_or1 (t_cmp (oEq hr.units) sEq (ev 1) (ec_int))))) (ss_one (s_ret (e_tup (a_cons (e_tup (a_cons (ev 1) (a_cons (ec_int) (a_nil)))) (a_cons (e_tup (a_cons (ev 1) (a_cons (ec_int) (a_nil)))) (a_nil)))))) (ss_nil)) (ss_cons (s_set (i := 4) sc_law_span.nd (e_cb (call_min2 rfl) sMin2 (by rfl) T.b_min (by decide +kernel) (a_cons (ec_int) (a_cons (e_op oPlus sPlus (e_op oPlus sPlus (ev 1) (ec_int)) (e_call G__law_draw (hr.mono (by omega)) T.g__law_draw T.k__law_draw (bd__law_draw T) .nil .nil tk (a_cons (ev 0) (a_cons (e_call G__law_pick (hr.mono (by omega)) T.g__law_pick T.k__law_pick (bd__law_pick T) .nil .nil tk (a_cons (ev 0) (a_cons (e_lst false (a_cons (ec_int) (a_cons (ec_int) (a_cons (ec_int) (a_cons (ec_int) (a_nil)))))) (a_nil)))) (a_nil))))) (a_nil))))) (ss_one (s_ret (e_tup (a_cons (e_tup (a_cons (ev 1) (a_cons (ev 2) (a_nil)))) (a_cons (e_tup (a_cons (ev 4) (a_cons (e_call G__law_draw (hr.mono (by omega)) T.g__law_draw T.k__law_draw (bd__law_draw T) .nil .nil tk (a_cons (ev 0) (a_cons (ec_int) (a_nil)))) (a_nil)))) (a_nil)))))))))))
theorem ok__law_nearby (T : Tx K mg) : FnZ P w K mg base 3 T.a__law_nearby T.d__law_nearby ["box", "spans"] F_law_nearby := by
  have G__law_draw := ok__law_draw (P := P) (w := w) (base := base) T
  have G__law_lowest := ok__law_lowest (P := P) (w := w) (base := base) T
  have G__law_pick := ok__law_pick (P := P) (w := w) (base := base) T
  exact fn_ok T.u__law_nearby (k := 2) sc_law_nearby (by decide) fun cdv A outer s H E hr tk =>
    ss_cons (s_set (i := 2) sc_law_nearby.nd (e_call G__law_draw (hr.mono (by omega)) T.g__law_draw T.k__law_draw (bd__law_draw T) .nil .nil tk (a_cons (ev 0) (a_cons (ec_int) (a_nil))))) (ss_cons (s_if (PW.pt (w_and (t_cmp (oNe hr.units) sNe (ev 1) (e_lst false (a_nil))) (w_and1 (t_cmp op_gt sGt (e_call G__law_draw (hr.mono (by omega)) T.g__law_draw T.k__law_draw (bd__law_draw T) .nil .nil tk (a_cons (ev 0) (a_cons (ec_int) (a_nil)))) (ec_int))))) (ss_cons (s_set (i := 3) sc_law_nearby.nd (e_call G__law_pick (hr.mono (by omega)) T.g__law_pick T.k__law_pick (bd__law_pick T) .nil .nil tk (a_cons (ev 0) (a_cons (ev 1) (a_nil))))) (ss_cons (s_set (i := 2) sc_law_nearby.nd (e_ix ix_seq sIx (e_ix ix_seq sIx (ev 3) (ec_int)) (ec_int))) (ss_one (s_if (PW.pt (w_and (t_notN (e_ix ix_seq sIx (ev 3) (ec_int))) (w_and1 (t_cmp (oEq hr.units) sEq (e_call G__law_draw (hr.mono (by omega)) T.g__law_draw T.k__law_draw (bd__law_draw T) .nil .nil tk (a_cons (ev 0) (a_cons (ec_int) (a_nil)))) (ec_int))))) (ss_one (s_set (i := 2) sc_law_nearby.nd (e_ix ix_seq sIx (e_ix ix_seq sIx (ev 3) (ec_int)) (ec_int)))) (ss_nil))))) (ss_nil)) (ss_cons (s_set (i := 4) sc_law_nearby.nd (e_call G__law_pick (hr.mono (by omega)) T.g__law_pick T.k__law_pick (bd__law_pick T) .nil .nil tk (a_cons (ev 0) (a_cons (e_lst false (a_cons (ec_int) (a_cons (ec_int) (a_cons (ec_int) (a_cons (ec_int) (a_cons (ec_int) (a_cons (e_op op_pow sPow (ec_int) (ec_int)) (a_cons (e_op op_pow sPow (ec_int) (ec_int)) (a_nil))))))))) (a_nil))))) (ss_cons (s_set (i := 5) sc_law_nearby.nd (e_cb (call_max2 rfl) sMax2 (by rfl) T.b_max (by decide +kernel) (a_cons (ec_int) (a_cons (e_op op_sub sSub (e_op oPlus sPlus (e_op oMul sMul (ev 2) (ev 4)) (e_call G__law_draw (hr.mono (by omega)) T.g__law_draw T.k__law_draw (bd__law_draw T) .nil .nil tk (a_cons (ev 0) (a_cons (ec_int) (a_nil))))) (ec_int)) (a_nil))))) (ss_cons (s_if (t_cmp (oEq hr.units) sEq (e_call G__law_draw (hr.mono (by omega)) T.g__law_draw T.k__law_draw (bd__law_draw T) .nil .nil tk (a_cons (ev 0) (a_cons (ec_int) (a_nil)))) (ec_int)) (ss_one (s_set (i := 5) sc_law_nearby.nd (e_op oPlus sPlus (e_op oMul sMul (ev 2) (ev 4)) (e_call G__law_draw (hr.mono (by omega)) T.g__law_draw T.k__law_draw (bd__law_draw T) .nil .nil tk (a_cons (ev 0) (a_cons (ev 4) (a_nil))))))) (ss_nil)) (ss_one (s_ret (e_call G__law_lowest (hr.mono (by omega)) T.g__law_lowest T.k__law_lowest (bd__law_lowest T) .nil .nil tk (a_cons (ev 5) (a_cons (ev 4) (a_nil))))))))))
theorem ok__law_holds (T : Tx K mg) : FnZ P w K mg base 1 T.a__law_holds T.d__law_holds ["pair", "one"] F_law_holds := by
  exact fn_ok T.u__law_holds (k := 0) sc_law_holds (by decide) fun cdv A outer s H E hr tk =>
    ss_cons (s_set (i := 2) sc_law_holds.nd (e_op oMul sMul (e_ix ix_seq sIx (e_ix ix_seq sIx (ev 0) (ec_int)) (ec_int)) (e_ix ix_seq sIx (ev 1) (ec_int)))) (ss_cons (s_if (PW.pt (w_or (t_cmp op_lt sLt (e_ix ix_seq sIx (ev 1) (ec_int)) (ev 2)) (w_or1 (PW.pt (w_and (t_cmp (oEq hr.units) sEq (e_ix ix_seq sIx (ev 1) (ec_int)) (ev 2)) (w_and1 (t_cmp (oEq hr.units) sEq (e_ix ix_seq sIx (e_ix ix_seq sIx (ev 0) (ec_int)) (ec_int)) (ec_int)))))))) (ss_one (s_ret (ec_bl))) (ss_nil)) (ss_cons (s_if (t_isN (e_ix ix_seq sIx (ev 0) (ec_int))) (ss_one (s_ret (ec_bl))) (ss_nil)) (ss_cons (s_set (i := 3) sc_law_holds.nd (e_op oMul sMul (e_ix ix_seq sIx (e_ix ix_seq sIx (ev 0) (ec_int)) (ec_int)) (e_ix ix_seq sIx (ev 1) (ec_int)))) (ss_one (s_ret (e_or (e_cmp op_lt sLt (e_ix ix_seq sIx (ev 1) (ec_int)) (ev 3)) (e_one (e_and (e_cmp (oEq hr.units) sEq (e_ix ix_seq sIx (ev 1) (ec_int)) (ev 3)) (e_one (e_cmp (oEq hr.units) sEq (e_ix ix_seq sIx (e_ix ix_seq sIx (ev 0) (ec_int)) (ec_int)) (ec_int)))))))))))
theorem ok__law_built (T : Tx K mg) : FnZ P w K mg base 5 T.a__law_built T.d__law_built ["box", "pair"] F_law_built := by
  have G__law_draw := ok__law_draw (P := P) (w := w) (base := base) T
  have G_span := ok_span (P := P) (w := w) (base := base) T
  obtain ⟨us_span_1, dv_span_1, db_span_1⟩ := T.u_span.binds (ps := ["low", "high", "low_reach", "high_reach"]) 1 0 (by simp) (by rfl) (fun _ _ _ _ _ _ _ us its ks h1 h2 h3 => match us, its, ks, h1, h2, h3 with | [_], [_], [_, _], _, _, _ => ⟨_, rfl, ⟨_, _, _, _, _, _, rfl, rfl, ⟨_, _, _, _, _, _, rfl, rfl, rfl⟩⟩⟩) (by simp)
  obtain ⟨us_span_2, dv_span_2, db_span_2⟩ := T.u_span.binds (ps := ["low", "high", "low_reach", "high_reach"]) 2 1 (by simp) (by rfl) (fun _ _ _ _ _ _ _ us its ks h1 h2 h3 => match us, its, ks, h1, h2, h3 with | [_, _], [_], [_, _], _, _, _ => ⟨_, rfl, ⟨_, _, _, _, _, _, rfl, rfl, ⟨_, _, _, _, _, _, rfl, rfl, rfl⟩⟩⟩) (by simp)
  obtain ⟨its_span_2_high_reach, mv_span_2_high_reach, kx_span_2_high_reach⟩ := T.u_span.kbinds (ps := ["low", "high", "low_reach", "high_reach"]) 2 ["high_reach"] [("low_reach", .int 1)] (fun us its mv ws => us ++ ((mv.drop 0).take 1 ++ ((ws.drop 0).take 1))) (by simp) (by simp) (by simp) (fun r1 r2 r3 r4 => r1.append (((r3.drop 0).take 1).append ((r4.drop 0).take 1))) (fun _ _ _ _ _ _ _ us its mv ws h1 h2 h3 h4 => match us, its, mv, ws, h1, h2, h3, h4 with | [_, _], [_], [_], [_], _, _, _, _ => ⟨_, rfl, ⟨_, _, _, _, _, _, rfl, rfl, rfl⟩⟩)
  obtain ⟨its_span_2_low_reach, mv_span_2_low_reach, kx_span_2_low_reach⟩ := T.u_span.kbinds (ps := ["low", "high", "low_reach", "high_reach"]) 2 ["low_reach"] [("high_reach", .int 1)] (fun us its mv ws => us ++ ((ws.drop 0).take 1 ++ ((mv.drop 0).take 1))) (by simp) (by simp) (by simp) (fun r1 r2 r3 r4 => r1.append (((r4.drop 0).take 1).append ((r3.drop 0).take 1))) (fun _ _ _ _ _ _ _ us its mv ws h1 h2 h3 h4 => match us, its, mv, ws, h1, h2, h3, h4 with | [_, _], [_], [_], [_], _, _, _, _ => ⟨_, rfl, ⟨_, _, _, _, _, _, rfl, rfl, rfl⟩⟩)
  obtain ⟨its_span_2_low_reach_high_reach, mv_span_2_low_reach_high_reach, kx_span_2_low_reach_high_reach⟩ := T.u_span.kbinds (ps := ["low", "high", "low_reach", "high_reach"]) 2 ["low_reach", "high_reach"] [] (fun us its mv ws => us ++ ((ws.drop 0).take 1 ++ ((ws.drop 1).take 1))) (by simp) (by simp) (by simp) (fun r1 r2 r3 r4 => r1.append (((r4.drop 0).take 1).append ((r4.drop 1).take 1))) (fun _ _ _ _ _ _ _ us its mv ws h1 h2 h3 h4 => match us, its, mv, ws, h1, h2, h3, h4 with | [_, _], [_], [], [_, _], _, _, _, _ => ⟨_, rfl, rfl⟩)
  exact fn_ok T.u__law_built (k := 4) sc_law_built (by decide) fun cdv A outer s H E hr tk =>
    ss_cons (s_set (i := 2) sc_law_built.nd (e_ix ix_seq sIx (ev 1) (ec_int))) (ss_cons (s_set (i := 3) sc_law_built.nd (e_ix ix_seq sIx (ev 1) (ec_int))) (ss_cons (s_set (i := 4) sc_law_built.nd (e_cmp (oEq hr.units) sEq (e_call G__law_draw (hr.mono (by omega)) T.g__law_draw T.k__law_draw (bd__law_draw T) .nil .nil tk (a_cons (ev 0) (a_cons (ec_int) (a_nil)))) (ec_int))) (ss_cons (s_set (i := 5) sc_law_built.nd (e_call G__law_draw (hr.mono (by omega)) T.g__law_draw T.k__law_draw (bd__law_draw T) .nil .nil tk (a_cons (ev 0) (a_cons (ec_int) (a_nil))))) (ss_one (s_try (i := 6) sc_law_built.nd T.e_InvalidSpan T.x_InvalidSpan tk (fun W' pn xe tk hp => ss_cons (s_if (t_isN (ev 3)) (ss_cons (s_if (PW.pt (w_and (t_B (ev 4)) (w_and1 (t_cmp (oEq hr.units) sEq (e_ix ix_seq sIx (ev 2) (ec_int)) (ec_int))))) (ss_one (s_ret (e_tup (a_cons (ec_bl) (a_cons (e_call G_span (hr.mono (by omega)) T.g_span T.k_span db_span_1 dv_span_1 (.cons (.non) (.cons (.int _) (.cons (.int _) .nil))) tk (a_cons (e_ix ix_seq sIx (ev 2) (ec_int)) (a_nil))) (a_nil)))))) (ss_nil)) (ss_one (s_ret (e_tup (a_cons (ec_bl) (a_cons (e_callX (gD := (fun ds es => match ds, es with | [a0, a1], [b0, b1] => [a0, a1, b0, b1] | _, _ => [])) G_span (hr.mono (by omega)) T.g_span T.k_span kx_span_2_low_reach_high_reach rfl (fun vs zs h1 h2 => match vs, zs, h1, h2 with | [_, _], [_, _], _, _ => rfl) (fun {_ _ vs zs ds es} r1 r2 h1 h2 => match ds, es, h1, h2, r1, r2 with | [a0, a1], [b0, b1], _, _, r1, r2 => by (obtain ⟨x0, x1, rfl, p0, p1⟩ := rps2 r1); (obtain ⟨y0, y1, rfl, q0, q1⟩ := rps2 r2); exact (.cons p0 (.cons p1 (.cons q0 (.cons q1 .nil))))) tk (a_cons (e_ix ix_seq sIx (ev 2) (ec_int)) (a_cons (ec_non) (a_nil))) (k_cons (e_ix ix_seq sIx (ev 2) (ec_int)) (k_cons (ev 5) (k_nil)))) (a_nil))))))) (ss_nil)) (ss_cons (s_if (PW.pt (w_and (t_B (ev 4)) (w_and (t_cmp (oEq hr.units) sEq (e_ix ix_seq sIx (ev 2) (ec_int)) (ec_int)) (w_and1 (t_cmp (oEq hr.units) sEq (e_ix ix_seq sIx (ev 3) (ec_int)) (ec_int)))))) (ss_one (s_ret (e_tup (a_cons (ec_bl) (a_cons (e_call G_span (hr.mono (by omega)) T.g_span T.k_span db_span_2 dv_span_2 (.cons (.int _) (.cons (.int _) .nil)) tk (a_cons (e_ix ix_seq sIx (ev 2) (ec_int)) (a_cons (e_ix ix_seq sIx (ev 3) (ec_int)) (a_nil)))) (a_nil)))))) (ss_nil)) (ss_cons (s_if (PW.pt (w_and (t_B (ev 4)) (w_and1 (t_cmp (oEq hr.units) sEq (e_ix ix_seq sIx (ev 3) (ec_int)) (ec_int))))) (ss_one (s_ret (e_tup (a_cons (ec_bl) (a_cons (e_callX (gD := (fun ds es => match ds, es with | [a0, a1], [b0] => [a0, a1, b0, (.int 1)] | _, _ => [])) G_span (hr.mono (by omega)) T.g_span T.k_span kx_span_2_low_reach rfl (fun vs zs h1 h2 => match vs, zs, h1, h2 with | [_, _], [_], _, _ => rfl) (fun {_ _ vs zs ds es} r1 r2 h1 h2 => match ds, es, h1, h2, r1, r2 with | [a0, a1], [b0], _, _, r1, r2 => by (obtain ⟨x0, x1, rfl, p0, p1⟩ := rps2 r1); (obtain ⟨y0, rfl, q0⟩ := rps1 r2); exact (.cons p0 (.cons p1 (.cons q0 (.cons (.int _) .nil))))) tk (a_cons (e_ix ix_seq sIx (ev 2) (ec_int)) (a_cons (e_ix ix_seq sIx (ev 3) (ec_int)) (a_nil))) (k_cons (e_ix ix_seq sIx (ev 2) (ec_int)) (k_nil))) (a_nil)))))) (ss_nil)) (ss_cons (s_if (PW.pt (w_and (t_B (ev 4)) (w_and1 (t_cmp (oEq hr.units) sEq (e_ix ix_seq sIx (ev 2) (ec_int)) (ec_int))))) (ss_one (s_ret (e_tup (a_cons (ec_bl) (a_cons (e_callX (gD := (fun ds es => match ds, es with | [a0, a1], [b0] => [a0, a1, (.int 1), b0] | _, _ => [])) G_span (hr.mono (by omega)) T.g_span T.k_span kx_span_2_high_reach rfl (fun vs zs h1 h2 => match vs, zs, h1, h2 with | [_, _], [_], _, _ => rfl) (fun {_ _ vs zs ds es} r1 r2 h1 h2 => match ds, es, h1, h2, r1, r2 with | [a0, a1], [b0], _, _, r1, r2 => by (obtain ⟨x0, x1, rfl, p0, p1⟩ := rps2 r1); (obtain ⟨y0, rfl, q0⟩ := rps1 r2); exact (.cons p0 (.cons p1 (.cons (.int _) (.cons q0 .nil))))) tk (a_cons (e_ix ix_seq sIx (ev 2) (ec_int)) (a_cons (e_ix ix_seq sIx (ev 3) (ec_int)) (a_nil))) (k_cons (e_ix ix_seq sIx (ev 3) (ec_int)) (k_nil))) (a_nil)))))) (ss_nil)) (ss_one (s_ret (e_tup (a_cons (ec_bl) (a_cons (e_callX (gD := (fun ds es => match ds, es with | [a0, a1], [b0, b1] => [a0, a1, b0, b1] | _, _ => [])) G_span (hr.mono (by omega)) T.g_span T.k_span kx_span_2_low_reach_high_reach rfl (fun vs zs h1 h2 => match vs, zs, h1, h2 with | [_, _], [_, _], _, _ => rfl) (fun {_ _ vs zs ds es} r1 r2 h1 h2 => match ds, es, h1, h2, r1, r2 with | [a0, a1], [b0, b1], _, _, r1, r2 => by (obtain ⟨x0, x1, rfl, p0, p1⟩ := rps2 r1); (obtain ⟨y0, y1, rfl, q0, q1⟩ := rps2 r2); exact (.cons p0 (.cons p1 (.cons q0 (.cons q1 .nil))))) tk (a_cons (e_ix ix_seq sIx (ev 2) (ec_int)) (a_cons (e_ix ix_seq sIx (ev 3) (ec_int)) (a_nil))) (k_cons (e_ix ix_seq sIx (ev 2) (ec_int)) (k_cons (e_ix ix_seq sIx (ev 3) (ec_int)) (k_nil)))) (a_nil)))))))))) (fun a oe dd pn hz hf hot => ss_cons (s_set (i := 7) sc_law_built.nd (e_and (e_isX T.e_InvalidSpan hz hf T.b_isinstance T.gl_BellError T.k_InvalidSpan_BellError (ev 6)) (e_one (e_isXB (T' := "ValueError") T.e_InvalidSpan hz hf T.b_isinstance T.b_ValueError (by decide +kernel) T.k_InvalidSpan_ValueError (ev 6))))) (ss_cons (s_set (i := 7) sc_law_built.nd (e_and (ev 7) (e_and (e_not (e_isX T.e_InvalidSpan hz hf T.b_isinstance T.e_InvalidMoment.gl T.k_InvalidSpan_InvalidMoment (ev 6))) (e_one (e_not (e_isX T.e_InvalidSpan hz hf T.b_isinstance T.e_InvalidTable.gl T.k_InvalidSpan_InvalidTable (ev 6))))))) (ss_one (s_ret (e_tup (a_cons (ec_bl) (a_cons (e_tup (a_cons (e_xf T.e_InvalidSpan (by simp) hz hf (ev 6)) (a_cons (ev 7) (a_nil)))) (a_nil)))))))))))))
theorem ok__law_wrong (T : Tx K mg) : FnZ P w K mg base 4 T.a__law_wrong T.d__law_wrong ["box"] F_law_wrong := by
  have G__law_draw := ok__law_draw (P := P) (w := w) (base := base) T
  have G__law_limit := ok__law_limit (P := P) (w := w) (base := base) T
  exact fn_ok T.u__law_wrong (k := 3) sc_law_wrong (by decide) fun cdv A outer s H E hr tk =>
    ss_cons (s_set (i := 1) sc_law_wrong.nd (e_call G__law_draw (hr.mono (by omega)) T.g__law_draw T.k__law_draw (bd__law_draw T) .nil .nil tk (a_cons (ev 0) (a_cons (ec_int) (a_nil))))) (ss_cons (s_set (i := 2) sc_law_wrong.nd (e_call G__law_limit (hr.mono (by omega)) T.g__law_limit T.k__law_limit (bd__law_limit T) .nil .nil tk (a_cons (ev 0) (a_nil)))) (ss_cons (s_set (i := 3) sc_law_wrong.nd (e_call G__law_draw (hr.mono (by omega)) T.g__law_draw T.k__law_draw (bd__law_draw T) .nil .nil tk (a_cons (ev 0) (a_cons (ec_int) (a_nil))))) (ss_cons (s_set (i := 4) sc_law_wrong.nd (e_call G__law_draw (hr.mono (by omega)) T.g__law_draw T.k__law_draw (bd__law_draw T) .nil .nil tk (a_cons (ev 0) (a_cons (ec_int) (a_nil))))) (ss_cons (s_if (t_cmp (oEq hr.units) sEq (ev 1) (ec_int)) (ss_cons (s_set (i := 5) sc_law_wrong.nd (ec_non)) (ss_cons (s_if (t_cmp (oEq hr.units) sEq (e_call G__law_draw (hr.mono (by omega)) T.g__law_draw T.k__law_draw (bd__law_draw T) .nil .nil tk (a_cons (ev 0) (a_cons (ec_int) (a_nil)))) (ec_int)) (ss_one (s_set (i := 5) sc_law_wrong.nd (e_tup (a_cons (e_call G__law_limit (hr.mono (by omega)) T.g__law_limit T.k__law_limit (bd__law_limit T) .nil .nil tk (a_cons (ev 0) (a_nil))) (a_cons (ev 4) (a_nil)))))) (ss_nil)) (ss_one (s_ret (e_tup (a_cons (e_tup (a_cons (e_op op_sub sSub (e_op op_sub sSub (ec_int) (ec_int)) (e_op op_mod sMod (ev 2) (ec_int))) (a_cons (ev 3) (a_nil)))) (a_cons (ev 5) (a_nil)))))))) (ss_nil)) (ss_cons (s_if (t_cmp (oEq hr.units) sEq (ev 1) (ec_int)) (ss_cons (s_set (i := 2) sc_law_wrong.nd (e_cb (call_max2 rfl) sMax2 (by rfl) T.b_max (by decide +kernel) (a_cons (ec_int) (a_cons (ev 2) (a_nil))))) (ss_one (s_ret (e_tup (a_cons (e_tup (a_cons (ev 2) (a_cons (ev 3) (a_nil)))) (a_cons (e_tup (a_cons (e_call G__law_draw (hr.mono (by omega)) T.g__law_draw T.k__law_draw (bd__law_draw T) .nil .nil tk (a_cons (ev 0) (a_cons (ev 2) (a_nil)))) (a_cons (ev 4) (a_nil)))) (a_nil))))))) (ss_nil)) (ss_one (s_ret (e_tup (a_cons (e_tup (a_cons (ev 2) (a_cons (ev 3) (a_nil)))) (a_cons (e_tup (a_cons (ev 2) (a_cons (e_if (t_cmp (oEq hr.units) sEq (ev 3) (ec_int)) (ec_int) (ev 4)) (a_nil)))) (a_nil)))))))))))
theorem ok__law_met (T : Tx K mg) : FnZ P w K mg base 4 T.a__law_met T.d__law_met ["row"] F_law_met := by
  have G_span_meet := ok_span_meet (P := P) (w := w) (base := base) T
  exact fn_ok T.u__law_met (k := 3) sc_law_met (by decide) fun cdv A outer s H E hr tk =>
    ss_cons (s_if (t_cmp (oEq hr.units) sEq (e_cb call_len sLen (by rfl) T.b_len (by decide +kernel) (a_cons (ev 0) (a_nil))) (ec_int)) (ss_one (s_ret (e_callY0 G_span_meet (hr.mono (by omega)) T.g_span_meet T.k_span_meet tk))) (ss_nil)) (ss_cons (s_if (t_cmp (oEq hr.units) sEq (e_cb call_len sLen (by rfl) T.b_len (by decide +kernel) (a_cons (ev 0) (a_nil))) (ec_int)) (ss_one (s_ret (e_callY G_span_meet (hr.mono (by omega)) T.g_span_meet T.k_span_meet tk (a_cons (e_ix ix_seq sIx (ev 0) (ec_int)) (a_nil))))) (ss_nil)) (ss_cons (s_if (t_cmp (oEq hr.units) sEq (e_cb call_len sLen (by rfl) T.b_len (by decide +kernel) (a_cons (ev 0) (a_nil))) (ec_int)) (ss_one (s_ret (e_callY G_span_meet (hr.mono (by omega)) T.g_span_meet T.k_span_meet tk (a_cons (e_ix ix_seq sIx (ev 0) (ec_int)) (a_cons (e_ix ix_seq sIx (ev 0) (ec_int)) (a_nil)))))) (ss_nil)) (ss_cons (s_if (t_cmp (oEq hr.units) sEq (e_cb call_len sLen (by rfl) T.b_len (by decide +kernel) (a_cons (ev 0) (a_nil))) (ec_int)) (ss_one (s_ret (e_callY G_span_meet (hr.mono (by omega)) T.g_span_meet T.k_span_meet tk (a_cons (e_ix ix_seq sIx (ev 0) (ec_int)) (a_cons (e_ix ix_seq sIx (ev 0) (ec_int)) (a_cons (e_ix ix_seq sIx (ev 0) (ec_int)) (a_nil))))))) (ss_nil)) (ss_cons (s_if (t_cmp (oEq hr.units) sEq (e_cb call_len sLen (by rfl) T.b_len (by decide +kernel) (a_cons (ev 0) (a_nil))) (ec_int)) (ss_one (s_ret (e_callY G_span_meet (hr.mono (by omega)) T.g_span_meet T.k_span_meet tk (a_cons (e_ix ix_seq sIx (ev 0) (ec_int)) (a_cons (e_ix ix_seq sIx (ev 0) (ec_int)) (a_cons (e_ix ix_seq sIx (ev 0) (ec_int)) (a_cons (e_ix ix_seq sIx (ev 0) (ec_int)) (a_nil)))))))) (ss_nil)) (ss_one (s_ret (e_callY G_span_meet (hr.mono (by omega)) T.g_span_meet T.k_span_meet tk (a_cons (e_ix ix_seq sIx (ev 0) (ec_int)) (a_cons (e_ix ix_seq sIx (ev 0) (ec_int)) (a_cons (e_ix ix_seq sIx (ev 0) (ec_int)) (a_cons (e_ix ix_seq sIx (ev 0) (ec_int)) (a_cons (e_ix ix_seq sIx (ev 0) (ec_int)) (a_nil)))))))))))))
theorem ok__law_covered (T : Tx K mg) : FnZ P w K mg base 4 T.a__law_covered T.d__law_covered ["row"] F_law_covered := by
  have G_span_cover := ok_span_cover (P := P) (w := w) (base := base) T
  exact fn_ok T.u__law_covered (k := 3) sc_law_covered (by decide) fun cdv A outer s H E hr tk =>
    ss_cons (s_if (t_cmp (oEq hr.units) sEq (e_cb call_len sLen (by rfl) T.b_len (by decide +kernel) (a_cons (ev 0) (a_nil))) (ec_int)) (ss_one (s_ret (e_callY0 G_span_cover (hr.mono (by omega)) T.g_span_cover T.k_span_cover tk))) (ss_nil)) (ss_cons (s_if (t_cmp (oEq hr.units) sEq (e_cb call_len sLen (by rfl) T.b_len (by decide +kernel) (a_cons (ev 0) (a_nil))) (ec_int)) (ss_one (s_ret (e_callY G_span_cover (hr.mono (by omega)) T.g_span_cover T.k_span_cover tk (a_cons (e_ix ix_seq sIx (ev 0) (ec_int)) (a_nil))))) (ss_nil)) (ss_cons (s_if (t_cmp (oEq hr.units) sEq (e_cb call_len sLen (by rfl) T.b_len (by decide +kernel) (a_cons (ev 0) (a_nil))) (ec_int)) (ss_one (s_ret (e_callY G_span_cover (hr.mono (by omega)) T.g_span_cover T.k_span_cover tk (a_cons (e_ix ix_seq sIx (ev 0) (ec_int)) (a_cons (e_ix ix_seq sIx (ev 0) (ec_int)) (a_nil)))))) (ss_nil)) (ss_cons (s_if (t_cmp (oEq hr.units) sEq (e_cb call_len sLen (by rfl) T.b_len (by decide +kernel) (a_cons (ev 0) (a_nil))) (ec_int)) (ss_one (s_ret (e_callY G_span_cover (hr.mono (by omega)) T.g_span_cover T.k_span_cover tk (a_cons (e_ix ix_seq sIx (ev 0) (ec_int)) (a_cons (e_ix ix_seq sIx (ev 0) (ec_int)) (a_cons (e_ix ix_seq sIx (ev 0) (ec_int)) (a_nil))))))) (ss_nil)) (ss_cons (s_if (t_cmp (oEq hr.units) sEq (e_cb call_len sLen (by rfl) T.b_len (by decide +kernel) (a_cons (ev 0) (a_nil))) (ec_int)) (ss_one (s_ret (e_callY G_span_cover (hr.mono (by omega)) T.g_span_cover T.k_span_cover tk (a_cons (e_ix ix_seq sIx (ev 0) (ec_int)) (a_cons (e_ix ix_seq sIx (ev 0) (ec_int)) (a_cons (e_ix ix_seq sIx (ev 0) (ec_int)) (a_cons (e_ix ix_seq sIx (ev 0) (ec_int)) (a_nil)))))))) (ss_nil)) (ss_one (s_ret (e_callY G_span_cover (hr.mono (by omega)) T.g_span_cover T.k_span_cover tk (a_cons (e_ix ix_seq sIx (ev 0) (ec_int)) (a_cons (e_ix ix_seq sIx (ev 0) (ec_int)) (a_cons (e_ix ix_seq sIx (ev 0) (ec_int)) (a_cons (e_ix ix_seq sIx (ev 0) (ec_int)) (a_cons (e_ix ix_seq sIx (ev 0) (ec_int)) (a_nil)))))))))))))
theorem ok__law_hull (T : Tx K mg) : FnZ P w K mg base 1 T.a__law_hull T.d__law_hull ["halves", "last"] F_law_hull := by
  exact fn_ok T.u__law_hull (k := 0) sc_law_hull (by decide) fun cdv A outer s H E hr tk =>
    ss_cons (s_if (t_cmp (oEq hr.units) sEq (ev 0) (e_lst false (a_nil))) (ss_one (s_ret (ec_non))) (ss_nil)) (ss_cons (s_set (i := 2) sc_law_hull.nd (e_ix ix_seq sIx (ev 0) (ec_int))) (ss_cons (s_set (i := 3) sc_law_hull.nd (e_tup (a_cons (e_op op_fdivW sDiv (ev 2) (ec_int)) (a_cons (e_op op_sub sSub (ec_int) (e_op op_mod sMod (e_ct cr_intT sIntT (by rfl) T.b_int (by decide +kernel) (a_cons (ev 2) (a_nil))) (ec_int))) (a_nil))))) (ss_cons (s_set (i := 4) sc_law_hull.nd (e_ix ix_seq sIx (ev 0) (e_un un_neg sNeg (ec_int)))) (ss_cons (s_if (t_cmp (oEq hr.units) sEq (ev 4) (ev 1)) (ss_one (s_ret (e_tup (a_cons (ev 3) (a_cons (ec_non) (a_nil)))))) (ss_nil)) (ss_one (s_ret (e_tup (a_cons (ev 3) (a_cons (e_tup (a_cons (e_op op_fdivW sDiv (e_op oPlus sPlus (ev 4) (ec_int)) (ec_int)) (a_cons (e_op op_sub sSub (ec_int) (e_op op_mod sMod (e_ct cr_intT sIntT (by rfl) T.b_int (by decide +kernel) (a_cons (ev 4) (a_nil))) (ec_int))) (a_nil)))) (a_nil))))))))))
theorem ok__law_top (T : Tx K mg) : FnZ P w K mg base 1 T.a__law_top T.d__law_top ["row"] F_law_top := by
  exact fn_ok T.u__law_top (k := 0) sc_law_top (by decide) fun cdv A outer s H E hr tk =>
    ss_cons (s_set (i := 1) sc_law_top.nd (ec_int)) (ss_cons (s_for rfl (i_any (ev 0)) (g_n 2 sc_law_top.nd) (ss_cons (s_set (i := 1) sc_law_top.nd (e_cb (call_max2 rfl) sMax2 (by rfl) T.b_max (by decide +kernel) (a_cons (ev 1) (a_cons (e_ix ix_seq sIx (e_ix ix_seq sIx (ev 2) (ec_int)) (ec_int)) (a_nil))))) (ss_one (s_if (t_notN (e_ix ix_seq sIx (ev 2) (ec_int))) (ss_one (s_set (i := 1) sc_law_top.nd (e_cb (call_max2 rfl) sMax2 (by rfl) T.b_max (by decide +kernel) (a_cons (ev 1) (a_cons (e_ix ix_seq sIx (e_ix ix_seq sIx (ev 2) (ec_int)) (ec_int)) (a_nil)))))) (ss_nil)))) (passes_of rfl)) (ss_one (s_ret (ev 1))))
theorem ok__law_joins_hold (T : Tx K mg) : FnZ P w K mg base 8 T.a__law_joins_hold T.d__law_joins_hold ["row"] F_law_joins_hold := by
  have G__law_covered := ok__law_covered (P := P) (w := w) (base := base) T
  have G__law_holds := ok__law_holds (P := P) (w := w) (base := base) T
  have G__law_hull := ok__law_hull (P := P) (w := w) (base := base) T
  have G__law_met := ok__law_met (P := P) (w := w) (base := base) T
  have G__law_same := ok__law_same (P := P) (w := w) (base := base) T 6
  have G__law_top := ok__law_top (P := P) (w := w) (base := base) T
  exact fn_ok T.u__law_joins_hold (k := 7) sc_law_joins_hold (by decide) fun cdv A outer s H E hr tk =>
    ss_cons (s_set (i := 1) sc_law_joins_hold.nd (e_op oPlus sPlus (e_op oMul sMul (ec_int) (e_call G__law_top (hr.mono (by omega)) T.g__law_top T.k__law_top (bd__law_top T) .nil .nil tk (a_cons (ev 0) (a_nil)))) (ec_int))) (ss_cons (s_set (i := 2) sc_law_joins_hold.nd (e_lst false (a_cons (ec_int) (a_cons (ev 1) (a_nil))))) (ss_cons (s_for rfl (i_any (ev 0)) (g_n 3 sc_law_joins_hold.nd) (ss_one (s_for rfl (i_any (ev 3)) (g_n 4 sc_law_joins_hold.nd) (ss_one (s_if (t_notN (ev 4)) (ss_one (s_set (i := 2) sc_law_joins_hold.nd (e_op oPlus sPlus (ev 2) (e_lst false (a_cons (e_cb (call_max2 rfl) sMax2 (by rfl) T.b_max (by decide +kernel) (a_cons (ec_int) (a_cons (e_op op_sub sSub (e_op oMul sMul (ec_int) (e_ix ix_seq sIx (ev 4) (ec_int))) (ec_int)) (a_nil)))) (a_cons (e_op oMul sMul (ec_int) (e_ix ix_seq sIx (ev 4) (ec_int))) (a_cons (e_op oPlus sPlus (e_op oMul sMul (ec_int) (e_ix ix_seq sIx (ev 4) (ec_int))) (ec_int)) (a_nil)))))))) (ss_nil))) (passes_of rfl))) (passes_of rfl)) (ss_cons (s_set (i := 5) sc_law_joins_hold.nd (e_lst true (a_nil))) (ss_cons (s_set (i := 6) sc_law_joins_hold.nd (e_lst true (a_nil))) (ss_cons (s_for rfl (i_any (e_soSetL rfl (by rfl) T.b_sorted (by rfl) T.b_set (ev 2))) (g_n 7 sc_law_joins_hold.nd) (ss_cons (s_setLc (own := [("pair", 3)]) false (i := 8) rfl sc_law_joins_hold.nd rfl rfl (sw_true rfl rfl rfl (by decide +kernel)) (i_any (ev 0)) (blkOk_by (N := N_law_joins_hold) (sc := defScope s_law_joins_hold) (by decide +kernel)) (fun _ _ _ _ _ => by exact g_n 3 sc_law_joins_hold.nd) (fun _ _ _ _ _ => by exact ts_one (t_B (e_call G__law_holds (hr.mono (by omega)) T.g__law_holds T.k__law_holds (bd__law_holds T) .nil .nil takes0N (a_cons (ev 3) (a_cons (e_tup (a_cons (ev 7) (a_cons (ec_int) (a_nil)))) (a_nil)))))) (fun _ _ _ _ _ => by exact ev 3) (by decide)) (ss_cons (s_if (t_cmp (oEq hr.units) sEq (e_cb call_len sLen (by rfl) T.b_len (by decide +kernel) (a_cons (ev 8) (a_nil))) (e_cb call_len sLen (by rfl) T.b_len (by decide +kernel) (a_cons (ev 0) (a_nil)))) (ss_one (s_expr (e_bm .list PySem.F.plainAttrs_list PySem.F.slot_list_append PySem.F.type_list_append mt_append sApp (ev 5) (a_cons (ev 7) (a_nil))))) (ss_nil)) (ss_one (s_if (t_cmp (oNe hr.units) sNe (ev 8) (e_lst false (a_nil))) (ss_one (s_expr (e_bm .list PySem.F.plainAttrs_list PySem.F.slot_list_append PySem.F.type_list_append mt_append sApp (ev 6) (a_cons (ev 7) (a_nil))))) (ss_nil))))) (passes_of rfl)) (ss_cons (s_set (i := 9) sc_law_joins_hold.nd (e_call G__law_hull (hr.mono (by omega)) T.g__law_hull T.k__law_hull (bd__law_hull T) .nil .nil tk (a_cons (ev 5) (a_cons (ev 1) (a_nil))))) (ss_cons (s_set (i := 10) sc_law_joins_hold.nd (e_call G__law_hull (hr.mono (by omega)) T.g__law_hull T.k__law_hull (bd__law_hull T) .nil .nil tk (a_cons (ev 6) (a_cons (ev 1) (a_nil))))) (ss_cons (s_set (i := 11) sc_law_joins_hold.nd (e_revL false T.b_list T.b_reversed (ev 0))) (ss_cons (s_if (PW.pt (w_or (t_not (t_B (e_call G__law_same (hr.mono (by omega)) T.g__law_same T.k__law_same (bd__law_same T) .nil .nil tk (a_cons (e_call G__law_met (hr.mono (by omega)) T.g__law_met T.k__law_met (bd__law_met T) .nil .nil tk (a_cons (ev 0) (a_nil))) (a_cons (ev 9) (a_nil)))))) (w_or1 (t_not (t_B (e_call G__law_same (hr.mono (by omega)) T.g__law_same T.k__law_same (bd__law_same T) .nil .nil tk (a_cons (e_call G__law_met (hr.mono (by omega)) T.g__law_met T.k__law_met (bd__law_met T) .nil .nil tk (a_cons (ev 11) (a_nil))) (a_cons (ev 9) (a_nil))))))))) (ss_one (s_ret (ec_bl))) (ss_nil)) (ss_one (s_ret (e_and (e_call G__law_same (hr.mono (by omega)) T.g__law_same T.k__law_same (bd__law_same T) .nil .nil tk (a_cons (e_call G__law_covered (hr.mono (by omega)) T.g__law_covered T.k__law_covered (bd__law_covered T) .nil .nil tk (a_cons (ev 0) (a_nil))) (a_cons (ev 10) (a_nil)))) (e_one (e_call G__law_same (hr.mono (by omega)) T.g__law_same T.k__law_same (bd__law_same T) .nil .nil tk (a_cons (e_call G__law_covered (hr.mono (by omega)) T.g__law_covered T.k__law_covered (bd__law_covered T) .nil .nil tk (a_cons (ev 11) (a_nil))) (a_cons (ev 10) (a_nil)))))))))))))))))
theorem ok__law_moment_of (T : Tx K mg) : FnZ P w K mg base 3 T.a__law_moment_of T.d__law_moment_of ["pair"] F_law_moment_of := by
  have G__law_lowest := ok__law_lowest (P := P) (w := w) (base := base) T
  exact fn_ok T.u__law_moment_of (k := 2) sc_law_moment_of (by decide) fun cdv A outer s H E hr tk =>
    ss_cons (s_if (t_cmp (oEq hr.units) sEq (e_ix ix_seq sIx (e_ix ix_seq sIx (ev 0) (ec_int)) (ec_int)) (ec_int)) (ss_one (s_ret (e_tup (a_cons (e_ix ix_seq sIx (e_ix ix_seq sIx (ev 0) (ec_int)) (ec_int)) (a_cons (ec_int) (a_nil)))))) (ss_nil)) (ss_cons (s_if (t_isN (e_ix ix_seq sIx (ev 0) (ec_int))) (ss_one (s_ret (e_tup (a_cons (e_op oPlus sPlus (e_ix ix_seq sIx (e_ix ix_seq sIx (ev 0) (ec_int)) (ec_int)) (ec_int)) (a_cons (ec_int) (a_nil)))))) (ss_nil)) (ss_one (s_ret (e_call G__law_lowest (hr.mono (by omega)) T.g__law_lowest T.k__law_lowest (bd__law_lowest T) .nil .nil tk (a_cons (e_op oPlus sPlus (e_ix ix_seq sIx (e_ix ix_seq sIx (ev 0) (ec_int)) (ec_int)) (e_ix ix_seq sIx (e_ix ix_seq sIx (ev 0) (ec_int)) (ec_int))) (a_cons (ec_int) (a_nil)))))))
theorem ok_law (T : Tx K mg) : FnZ P w K mg base 9 T.a_law T.d_law ["script"] Flaw := by
  have G__law_box := ok__law_box (P := P) (w := w) (base := base) T
  have G__law_built := ok__law_built (P := P) (w := w) (base := base) T
  have G__law_draw := ok__law_draw (P := P) (w := w) (base := base) T
  have G__law_holds := ok__law_holds (P := P) (w := w) (base := base) T
  have G__law_joins_hold := ok__law_joins_hold (P := P) (w := w) (base := base) T
  have G__law_moment_of := ok__law_moment_of (P := P) (w := w) (base := base) T
  have G__law_nearby := ok__law_nearby (P := P) (w := w) (base := base) T
  have G__law_same := ok__law_same (P := P) (w := w) (base := base) T 6
  have G__law_span := ok__law_span (P := P) (w := w) (base := base) T
  have G__law_wrong := ok__law_wrong (P := P) (w := w) (base := base) T
  have G_in_span := ok_in_span (P := P) (w := w) (base := base) T
  have G_span_moment := ok_span_moment (P := P) (w := w) (base := base) T
  exact fn_ok T.u_law (k := 8) sclaw (by decide) fun cdv A outer s H E hr tk =>
    ss_cons (s_set (i := 1) sclaw.nd (e_call G__law_box (hr.mono (by omega)) T.g__law_box T.k__law_box (bd__law_box T) .nil .nil tk (a_cons (ev 0) (a_nil)))) (ss_cons (s_set (i := 2) sclaw.nd (e_lst true (a_nil))) (ss_cons (s_for rfl (i_rng1 (by rfl) T.b_range (a_cons (e_call G__law_draw (hr.mono (by omega)) T.g__law_draw T.k__law_draw (bd__law_draw T) .nil .nil tk (a_cons (ev 1) (a_cons (ec_int) (a_nil)))) (a_nil))) (g_n 3 sclaw.nd) (ss_cons (s_expr (e_bm .list PySem.F.plainAttrs_list PySem.F.slot_list_append PySem.F.type_list_append mt_append sApp (ev 2) (a_cons (e_call G__law_span (hr.mono (by omega)) T.g__law_span T.k__law_span (bd__law_span T) .nil .nil tk (a_cons (ev 1) (a_nil))) (a_nil)))) (ss_one (s_if (PW.pt (w_and (t_cmp op_gt sGt (ev 3) (ec_int)) (w_and1 (t_cmp (oEq hr.units) sEq (e_call G__law_draw (hr.mono (by omega)) T.g__law_draw T.k__law_draw (bd__law_draw T) .nil .nil tk (a_cons (ev 1) (a_cons (ec_int) (a_nil)))) (ec_int))))) (ss_one (s_put (pg_sub (ev 2) (ev 3) set_list) (e_ix ix_seq sIx (ev 2) (e_op op_sub sSub (ev 3) (ec_int))) rfl)) (ss_nil)))) (passes_of rfl)) (ss_cons (s_if (PW.pt (w_or (t_not (t_B (e_call G__law_same (hr.mono (by omega)) T.g__law_same T.k__law_same (bd__law_same T) .nil .nil tk (a_cons (e_glob (v := L2.V.ref T.w_EVER) (by rfl) T.v_EVER rfl T.r_EVER) (a_cons (e_tup (a_cons (e_tup (a_cons (ec_int) (a_cons (ec_int) (a_nil)))) (a_cons (ec_non) (a_nil)))) (a_nil)))))) (w_or1 (t_not (t_B (e_call G__law_joins_hold (hr.mono (by omega)) T.g__law_joins_hold T.k__law_joins_hold (bd__law_joins_hold T) .nil .nil tk (a_cons (ev 2) (a_nil)))))))) (ss_one (s_ret (ec_bl))) (ss_nil)) (ss_cons (s_for rfl (i_any (ev 2)) (g_n 4 sclaw.nd) (ss_cons (s_if (t_not (t_B (e_call G__law_same (hr.mono (by omega)) T.g__law_same T.k__law_same (bd__law_same T) .nil .nil tk (a_cons (e_call G__law_built (hr.mono (by omega)) T.g__law_built T.k__law_built (bd__law_built T) .nil .nil tk (a_cons (ev 1) (a_cons (ev 4) (a_nil)))) (a_cons (e_tup (a_cons (ec_bl) (a_cons (ev 4) (a_nil)))) (a_nil)))))) (ss_one (s_ret (ec_bl))) (ss_nil)) (ss_one (s_if (t_not (t_B (e_call G__law_same (hr.mono (by omega)) T.g__law_same T.k__law_same (bd__law_same T) .nil .nil tk (a_cons (e_call G_span_moment (hr.mono (by omega)) T.g_span_moment T.k_span_moment (bd_span_moment T) .nil .nil tk (a_cons (ev 4) (a_nil))) (a_cons (e_call G__law_moment_of (hr.mono (by omega)) T.g__law_moment_of T.k__law_moment_of (bd__law_moment_of T) .nil .nil tk (a_cons (ev 4) (a_nil))) (a_nil)))))) (ss_one (s_ret (ec_bl))) (ss_nil)))) (passes_of rfl)) (ss_cons (s_for rfl (i_rng1 (by rfl) T.b_range (a_cons (ec_int) (a_nil))) (g_n 3 sclaw.nd) (ss_cons (s_set (i := 5) sclaw.nd (e_call G__law_nearby (hr.mono (by omega)) T.g__law_nearby T.k__law_nearby (bd__law_nearby T) .nil .nil tk (a_cons (ev 1) (a_cons (ev 2) (a_nil))))) (ss_one (s_for rfl (i_any (e_op oPlus sPlus (ev 2) (e_lst false (a_cons (e_tup (a_cons (e_tup (a_cons (ec_int) (a_cons (ec_int) (a_nil)))) (a_cons (ec_non) (a_nil)))) (a_nil))))) (g_n 4 sclaw.nd) (ss_one (s_if (t_not (t_B (e_call G__law_same (hr.mono (by omega)) T.g__law_same T.k__law_same (bd__law_same T) .nil .nil tk (a_cons (e_call G_in_span (hr.mono (by omega)) T.g_in_span T.k_in_span (bd_in_span T) .nil .nil tk (a_cons (ev 5) (a_cons (ev 4) (a_nil)))) (a_cons (e_call G__law_holds (hr.mono (by omega)) T.g__law_holds T.k__law_holds (bd__law_holds T) .nil .nil tk (a_cons (ev 4) (a_cons (ev 5) (a_nil)))) (a_nil)))))) (ss_one (s_ret (ec_bl))) (ss_nil))) (passes_of rfl)))) (passes_of rfl)) (ss_cons (s_set (i := 6) sclaw.nd (e_call G__law_wrong (hr.mono (by omega)) T.g__law_wrong T.k__law_wrong (bd__law_wrong T) .nil .nil tk (a_cons (ev 1) (a_nil)))) (ss_cons (s_if (t_not (t_B (e_call G__law_same (hr.mono (by omega)) T.g__law_same T.k__law_same (bd__law_same T) .nil .nil tk (a_cons (e_call G__law_built (hr.mono (by omega)) T.g__law_built T.k__law_built (bd__law_built T) .nil .nil tk (a_cons (ev 1) (a_cons (ev 6) (a_nil)))) (a_cons (e_tup (a_cons (ec_bl) (a_cons (e_tup (a_cons (ev 6) (a_cons (ec_bl) (a_nil)))) (a_nil)))) (a_nil)))))) (ss_one (s_ret (ec_bl))) (ss_nil)) (ss_one (s_ret (e_call G__law_joins_hold (hr.mono (by omega)) T.g__law_joins_hold T.k__law_joins_hold (bd__law_joins_hold T) .nil .nil tk (a_cons (e_sl false (ev 2) (o_some (ec_int)) (o_none)) (a_nil))))))))))))
end
end K03
end

section
set_option Elab.async false
set_option linter.all false
set_option maxRecDepth 100000
set_option maxHeartbeats 4000000
namespace K03
open PySem PySem.Spec PyProof.Rows L2 Z
theorem all_mk {P : Program} {w : World} {K : PySem.W.Frag} {h : Heap} {mg : Str → Option Value} {fa : Addr} (X : K.In h) (G : h.Ns mainGlobals mg) (hfa : mg "law" = some (.ref fa)) (hF : Holds Flaw)
    {ad_EVER_0 ad_EVER_1 : Addr} {ob_EVER_0 ob_EVER_1 : Obj} {it_EVER_0 it_EVER_1 : Array Value} {nn_EVER_0 nn_EVER_1 : Nat}
    {C_BellError : Addr}
    {C_InvalidMoment : Addr}
    {nm_InvalidMoment qn_InvalidMoment : Str} {N_InvalidMoment : Addr} {bs_InvalidMoment bm_InvalidMoment : List Value} {sn_InvalidMoment : List Str} {su_InvalidMoment : List Value} {ab_InvalidMoment : Bool} {co_InvalidMoment : Option Bool} {dd_InvalidMoment : Option Addr} {m0_InvalidMoment m1_InvalidMoment m2_InvalidMoment m3_InvalidMoment m5_InvalidMoment : Option Value}
    {I_InvalidMoment : Addr} {oc_InvalidMoment : Value} {od_InvalidMoment an_InvalidMoment : Option Addr} {sl_InvalidMoment : Array (Option Value)} {kV_InvalidMoment dc_InvalidMoment pm_InvalidMoment cd_InvalidMoment ct_InvalidMoment : Value}
    {C_InvalidSpan : Addr}
    {nm_InvalidSpan qn_InvalidSpan : Str} {N_InvalidSpan : Addr} {bs_InvalidSpan bm_InvalidSpan : List Value} {sn_InvalidSpan : List Str} {su_InvalidSpan : List Value} {ab_InvalidSpan : Bool} {co_InvalidSpan : Option Bool} {dd_InvalidSpan : Option Addr} {m0_InvalidSpan m1_InvalidSpan m2_InvalidSpan m3_InvalidSpan m5_InvalidSpan : Option Value}
    {I_InvalidSpan : Addr} {oc_InvalidSpan : Value} {od_InvalidSpan an_InvalidSpan : Option Addr} {sl_InvalidSpan : Array (Option Value)} {kV_InvalidSpan dc_InvalidSpan pm_InvalidSpan cd_InvalidSpan ct_InvalidSpan : Value}
    {C_InvalidTable : Addr}
    {nm_InvalidTable qn_InvalidTable : Str} {N_InvalidTable : Addr} {bs_InvalidTable bm_InvalidTable : List Value} {sn_InvalidTable : List Str} {su_InvalidTable : List Value} {ab_InvalidTable : Bool} {co_InvalidTable : Option Bool} {dd_InvalidTable : Option Addr} {m0_InvalidTable m1_InvalidTable m2_InvalidTable m3_InvalidTable m5_InvalidTable : Option Value}
    {I_InvalidTable : Addr} {oc_InvalidTable : Value} {od_InvalidTable an_InvalidTable : Option Addr} {sl_InvalidTable : Array (Option Value)} {kV_InvalidTable dc_InvalidTable pm_InvalidTable cd_InvalidTable ct_InvalidTable : Value}
    {f_is_whole : Addr} {oc_is_whole : Value} {od_is_whole an_is_whole : Option Addr} {sl_is_whole : Array (Option Value)} {kV_is_whole dc_is_whole pm_is_whole cd_is_whole ct_is_whole : Value}
    {f_is_tuple_of : Addr} {oc_is_tuple_of : Value} {od_is_tuple_of an_is_tuple_of : Option Addr} {sl_is_tuple_of : Array (Option Value)} {kV_is_tuple_of dc_is_tuple_of pm_is_tuple_of cd_is_tuple_of ct_is_tuple_of : Value}
    {f_in_lowest_terms : Addr} {oc_in_lowest_terms : Value} {od_in_lowest_terms an_in_lowest_terms : Option Addr} {sl_in_lowest_terms : Array (Option Value)} {kV_in_lowest_terms dc_in_lowest_terms pm_in_lowest_terms cd_in_lowest_terms ct_in_lowest_terms : Value}
    {f_added : Addr} {oc_added : Value} {od_added an_added : Option Addr} {sl_added : Array (Option Value)} {kV_added dc_added pm_added cd_added ct_added : Value}
    {f_compared : Addr} {oc_compared : Value} {od_compared an_compared : Option Addr} {sl_compared : Array (Option Value)} {kV_compared dc_compared pm_compared cd_compared ct_compared : Value}
    {f_halfway : Addr} {oc_halfway : Value} {od_halfway an_halfway : Option Addr} {sl_halfway : Array (Option Value)} {kV_halfway dc_halfway pm_halfway cd_halfway ct_halfway : Value}
    {f_is_edge : Addr} {oc_is_edge : Value} {od_is_edge an_is_edge : Option Addr} {sl_is_edge : Array (Option Value)} {kV_is_edge dc_is_edge pm_is_edge cd_is_edge ct_is_edge : Value}
    {f_is_span : Addr} {oc_is_span : Value} {od_is_span an_is_span : Option Addr} {sl_is_span : Array (Option Value)} {kV_is_span dc_is_span pm_is_span cd_is_span ct_is_span : Value}
    {f_has_moment : Addr} {oc_has_moment : Value} {od_has_moment an_has_moment : Option Addr} {sl_has_moment : Array (Option Value)} {kV_has_moment dc_has_moment pm_has_moment cd_has_moment ct_has_moment : Value}
    {f_span : Addr} {oc_span : Value} {od_span an_span : Option Addr} {sl_span : Array (Option Value)} {dc_span pm_span cd_span ct_span : Value}
    {T_span : Addr} {oT_span : Obj} {its_span : List Value} {nT_span : Nat}
    {KD_span : Addr} {kw_span_low_reach kw_span_high_reach : Value}
    {f_in_span : Addr} {oc_in_span : Value} {od_in_span an_in_span : Option Addr} {sl_in_span : Array (Option Value)} {kV_in_span dc_in_span pm_in_span cd_in_span ct_in_span : Value}
    {f_low_order : Addr} {oc_low_order : Value} {od_low_order an_low_order : Option Addr} {sl_low_order : Array (Option Value)} {kV_low_order dc_low_order pm_low_order cd_low_order ct_low_order : Value}
    {f_span_meet : Addr} {oc_span_meet : Value} {od_span_meet an_span_meet : Option Addr} {sl_span_meet : Array (Option Value)} {kV_span_meet dc_span_meet pm_span_meet cd_span_meet ct_span_meet : Value}
    {f_span_cover : Addr} {oc_span_cover : Value} {od_span_cover an_span_cover : Option Addr} {sl_span_cover : Array (Option Value)} {kV_span_cover dc_span_cover pm_span_cover cd_span_cover ct_span_cover : Value}
    {f_span_moment : Addr} {oc_span_moment : Value} {od_span_moment an_span_moment : Option Addr} {sl_span_moment : Array (Option Value)} {kV_span_moment dc_span_moment pm_span_moment cd_span_moment ct_span_moment : Value}
    {f__law_box : Addr} {oc__law_box : Value} {od__law_box an__law_box : Option Addr} {sl__law_box : Array (Option Value)} {kV__law_box dc__law_box pm__law_box cd__law_box ct__law_box : Value}
    {f__law_draw : Addr} {oc__law_draw : Value} {od__law_draw an__law_draw : Option Addr} {sl__law_draw : Array (Option Value)} {kV__law_draw dc__law_draw pm__law_draw cd__law_draw ct__law_draw : Value}
    {f__law_pick : Addr} {oc__law_pick : Value} {od__law_pick an__law_pick : Option Addr} {sl__law_pick : Array (Option Value)} {kV__law_pick dc__law_pick pm__law_pick cd__law_pick ct__law_pick : Value}
    {f__law_same : Addr} {oc__law_same : Value} {od__law_same an__law_same : Option Addr} {sl__law_same : Array (Option Value)} {kV__law_same dc__law_same pm__law_same cd__law_same ct__law_same : Value}
    {f__law_gcd : Addr} {oc__law_gcd : Value} {od__law_gcd an__law_gcd : Option Addr} {sl__law_gcd : Array (Option Value)} {kV__law_gcd dc__law_gcd pm__law_gcd cd__law_gcd ct__law_gcd : Value}
    {f__law_lowest : Addr} {oc__law_lowest : Value} {od__law_lowest an__law_lowest : Option Addr} {sl__law_lowest : Array (Option Value)} {kV__law_lowest dc__law_lowest pm__law_lowest cd__law_lowest ct__law_lowest : Value}
    {f__law_limit : Addr} {oc__law_limit : Value} {od__law_limit an__law_limit : Option Addr} {sl__law_limit : Array (Option Value)} {kV__law_limit dc__law_limit pm__law_limit cd__law_limit ct__law_limit : Value}
    {f__law_span : Addr} {oc__law_span : Value} {od__law_span an__law_span : Option Addr} {sl__law_span : Array (Option Value)} {kV__law_span dc__law_span pm__law_span cd__law_span ct__law_span : Value}
    {f__law_nearby : Addr} {oc__law_nearby : Value} {od__law_nearby an__law_nearby : Option Addr} {sl__law_nearby : Array (Option Value)} {kV__law_nearby dc__law_nearby pm__law_nearby cd__law_nearby ct__law_nearby : Value}
    {f__law_holds : Addr} {oc__law_holds : Value} {od__law_holds an__law_holds : Option Addr} {sl__law_holds : Array (Option Value)} {kV__law_holds dc__law_holds pm__law_holds cd__law_holds ct__law_holds : Value}
    {f__law_built : Addr} {oc__law_built : Value} {od__law_built an__law_built : Option Addr} {sl__law_built : Array (Option Value)} {kV__law_built dc__law_built pm__law_built cd__law_built ct__law_built : Value}
    {f__law_wrong : Addr} {oc__law_wrong : Value} {od__law_wrong an__law_wrong : Option Addr} {sl__law_wrong : Array (Option Value)} {kV__law_wrong dc__law_wrong pm__law_wrong cd__law_wrong ct__law_wrong : Value}
    {f__law_met : Addr} {oc__law_met : Value} {od__law_met an__law_met : Option Addr} {sl__law_met : Array (Option Value)} {kV__law_met dc__law_met pm__law_met cd__law_met ct__law_met : Value}
    {f__law_covered : Addr} {oc__law_covered : Value} {od__law_covered an__law_covered : Option Addr} {sl__law_covered : Array (Option Value)} {kV__law_covered dc__law_covered pm__law_covered cd__law_covered ct__law_covered : Value}
    {f__law_hull : Addr} {oc__law_hull : Value} {od__law_hull an__law_hull : Option Addr} {sl__law_hull : Array (Option Value)} {kV__law_hull dc__law_hull pm__law_hull cd__law_hull ct__law_hull : Value}
    {f__law_top : Addr} {oc__law_top : Value} {od__law_top an__law_top : Option Addr} {sl__law_top : Array (Option Value)} {kV__law_top dc__law_top pm__law_top cd__law_top ct__law_top : Value}
    {f__law_joins_hold : Addr} {oc__law_joins_hold : Value} {od__law_joins_hold an__law_joins_hold : Option Addr} {sl__law_joins_hold : Array (Option Value)} {kV__law_joins_hold dc__law_joins_hold pm__law_joins_hold cd__law_joins_hold ct__law_joins_hold : Value}
    {f__law_moment_of : Addr} {oc__law_moment_of : Value} {od__law_moment_of an__law_moment_of : Option Addr} {sl__law_moment_of : Array (Option Value)} {kV__law_moment_of dc__law_moment_of pm__law_moment_of cd__law_moment_of ct__law_moment_of : Value}
    {f_law : Addr} {oc_law : Value} {od_law an_law : Option Addr} {sl_law : Array (Option Value)} {kV_law dc_law pm_law cd_law ct_law : Value}
    (gB_ValueError : PySem.W.nsIn K mainGlobals "ValueError" = some none)
    (gB_all : PySem.W.nsIn K mainGlobals "all" = some none)
    (gB_bool : PySem.W.nsIn K mainGlobals "bool" = some none)
    (gB_gcd : PySem.W.nsIn K mainGlobals "gcd" = some (some (.builtin "math.gcd")))
    (gB_int : PySem.W.nsIn K mainGlobals "int" = some none)
    (gB_isinstance : PySem.W.nsIn K mainGlobals "isinstance" = some none)
    (gB_len : PySem.W.nsIn K mainGlobals "len" = some none)
    (gB_list : PySem.W.nsIn K mainGlobals "list" = some none)
    (gB_max : PySem.W.nsIn K mainGlobals "max" = some none)
    (gB_min : PySem.W.nsIn K mainGlobals "min" = some none)
    (gB_range : PySem.W.nsIn K mainGlobals "range" = some none)
    (gB_reversed : PySem.W.nsIn K mainGlobals "reversed" = some none)
    (gB_set : PySem.W.nsIn K mainGlobals "set" = some none)
    (gB_sorted : PySem.W.nsIn K mainGlobals "sorted" = some none)
    (gB_str : PySem.W.nsIn K mainGlobals "str" = some none)
    (gB_tuple : PySem.W.nsIn K mainGlobals "tuple" = some none)
    (v_EVER : PySem.W.nsIn K mainGlobals "EVER" = some (some (.ref ad_EVER_0)))
    (tl_EVER_0 : K.lookup ad_EVER_0 = some ob_EVER_0)
    (tc_EVER_0 : ob_EVER_0.cls = .type "tuple")
    (td_EVER_0 : ob_EVER_0.data = .seq it_EVER_0 nn_EVER_0)
    (ts_EVER_0 : it_EVER_0.size = 2)
    (tv_EVER_0 : Vals [.ref ad_EVER_1, .non] it_EVER_0.toList)
    (tl_EVER_1 : K.lookup ad_EVER_1 = some ob_EVER_1)
    (tc_EVER_1 : ob_EVER_1.cls = .type "tuple")
    (td_EVER_1 : ob_EVER_1.data = .seq it_EVER_1 nn_EVER_1)
    (ts_EVER_1 : it_EVER_1.size = 2)
    (tv_EVER_1 : Vals [.int (0), .int (1)] it_EVER_1.toList)
    (a_BellError : PySem.W.nsIn K mainGlobals "BellError" = some (some (.ref C_BellError)))
    (hd_BellError : PySem.W.hasDictIn K C_BellError = true)
    (ty_BellError : PySem.W.typeIn K (.ref C_BellError) = some (.type "type"))
    (a_InvalidMoment : PySem.W.nsIn K mainGlobals "InvalidMoment" = some (some (.ref C_InvalidMoment)))
    (xl_InvalidMoment : K.lookup C_InvalidMoment = some (excClassObj nm_InvalidMoment qn_InvalidMoment C_InvalidMoment N_InvalidMoment bs_InvalidMoment bm_InvalidMoment true sn_InvalidMoment su_InvalidMoment ab_InvalidMoment co_InvalidMoment dd_InvalidMoment m0_InvalidMoment m1_InvalidMoment m2_InvalidMoment m3_InvalidMoment m5_InvalidMoment "ValueError.__new__"))
    (rv_InvalidMoment : PySem.HandSPX.refsVE bm_InvalidMoment = true)
    (sa_InvalidMoment : PySem.W.findIn K (.ref C_InvalidMoment) "__setattr__" = some (some (.builtin "object.__setattr__")))
    (ga_InvalidMoment : PySem.W.findIn K (.ref C_InvalidMoment) "__getattribute__" = some (some (.builtin "BaseException.__getattribute__")))
    (gg_InvalidMoment : PySem.W.findIn K (.ref C_InvalidMoment) "__getattr__" = some none)
    (ex_InvalidMoment : PySem.W.subIn K (.ref C_InvalidMoment) (.type "BaseException") = some true)
    (ty_InvalidMoment : PySem.W.typeIn K (.ref C_InvalidMoment) = some (.type "type"))
    (kC_InvalidMoment : PySem.W.keepIn K (.ref C_InvalidMoment) = true)
    (hd_InvalidMoment : PySem.W.hasDictIn K C_InvalidMoment = true)
    (ca_InvalidMoment : PySem.W.findIn K (.ref C_InvalidMoment) "__class__" = some (some (.builtin "object.__class__")))
    (cm_InvalidMoment : PySem.W.mroIn K C_InvalidMoment (.type "object") = some true)
    (no_InvalidMoment_value : PySem.W.findIn K (.ref C_InvalidMoment) "value" = some none)
    (ci_InvalidMoment : PySem.W.findIn K (.ref C_InvalidMoment) "__init__" = some (some (.ref I_InvalidMoment)))
    (ti_InvalidMoment : PySem.W.typeIn K (.ref I_InvalidMoment) = some (.type "function"))
    (li_InvalidMoment : K.lookup I_InvalidMoment = some ⟨oc_InvalidMoment, od_InvalidMoment, .func (PySem.W.fnOf "__init__" "InvalidMoment.__init__" (defArgs sInvalidMoment) (defBody sInvalidMoment) (defScope sInvalidMoment) .none kV_InvalidMoment dc_InvalidMoment pm_InvalidMoment an_InvalidMoment cd_InvalidMoment ct_InvalidMoment), sl_InvalidMoment⟩)
    (cc_InvalidMoment : PySem.W.codeIn K cd_InvalidMoment "InvalidMoment.__init__" = true)
    (ki_InvalidMoment : PySem.W.keepIn K (.ref I_InvalidMoment) = true)
    (ss_InvalidMoment : PySem.W.subIn K (.ref C_InvalidMoment) (.ref C_InvalidMoment) = some true)
    (a_InvalidSpan : PySem.W.nsIn K mainGlobals "InvalidSpan" = some (some (.ref C_InvalidSpan)))
    (xl_InvalidSpan : K.lookup C_InvalidSpan = some (excClassObj nm_InvalidSpan qn_InvalidSpan C_InvalidSpan N_InvalidSpan bs_InvalidSpan bm_InvalidSpan true sn_InvalidSpan su_InvalidSpan ab_InvalidSpan co_InvalidSpan dd_InvalidSpan m0_InvalidSpan m1_InvalidSpan m2_InvalidSpan m3_InvalidSpan m5_InvalidSpan "ValueError.__new__"))
    (rv_InvalidSpan : PySem.HandSPX.refsVE bm_InvalidSpan = true)
    (sa_InvalidSpan : PySem.W.findIn K (.ref C_InvalidSpan) "__setattr__" = some (some (.builtin "object.__setattr__")))
    (ga_InvalidSpan : PySem.W.findIn K (.ref C_InvalidSpan) "__getattribute__" = some (some (.builtin "BaseException.__getattribute__")))
    (gg_InvalidSpan : PySem.W.findIn K (.ref C_InvalidSpan) "__getattr__" = some none)
    (ex_InvalidSpan : PySem.W.subIn K (.ref C_InvalidSpan) (.type "BaseException") = some true)
    (ty_InvalidSpan : PySem.W.typeIn K (.ref C_InvalidSpan) = some (.type "type"))
    (kC_InvalidSpan : PySem.W.keepIn K (.ref C_InvalidSpan) = true)
    (hd_InvalidSpan : PySem.W.hasDictIn K C_InvalidSpan = true)
    (ca_InvalidSpan : PySem.W.findIn K (.ref C_InvalidSpan) "__class__" = some (some (.builtin "object.__class__")))
    (cm_InvalidSpan : PySem.W.mroIn K C_InvalidSpan (.type "object") = some true)
    (no_InvalidSpan_value : PySem.W.findIn K (.ref C_InvalidSpan) "value" = some none)
    (ci_InvalidSpan : PySem.W.findIn K (.ref C_InvalidSpan) "__init__" = some (some (.ref I_InvalidSpan)))
    (ti_InvalidSpan : PySem.W.typeIn K (.ref I_InvalidSpan) = some (.type "function"))
    (li_InvalidSpan : K.lookup I_InvalidSpan = some ⟨oc_InvalidSpan, od_InvalidSpan, .func (PySem.W.fnOf "__init__" "InvalidSpan.__init__" (defArgs sInvalidSpan) (defBody sInvalidSpan) (defScope sInvalidSpan) .none kV_InvalidSpan dc_InvalidSpan pm_InvalidSpan an_InvalidSpan cd_InvalidSpan ct_InvalidSpan), sl_InvalidSpan⟩)
    (cc_InvalidSpan : PySem.W.codeIn K cd_InvalidSpan "InvalidSpan.__init__" = true)
    (ki_InvalidSpan : PySem.W.keepIn K (.ref I_InvalidSpan) = true)
    (ss_InvalidSpan : PySem.W.subIn K (.ref C_InvalidSpan) (.ref C_InvalidSpan) = some true)
    (a_InvalidTable : PySem.W.nsIn K mainGlobals "InvalidTable" = some (some (.ref C_InvalidTable)))
    (xl_InvalidTable : K.lookup C_InvalidTable = some (excClassObj nm_InvalidTable qn_InvalidTable C_InvalidTable N_InvalidTable bs_InvalidTable bm_InvalidTable true sn_InvalidTable su_InvalidTable ab_InvalidTable co_InvalidTable dd_InvalidTable m0_InvalidTable m1_InvalidTable m2_InvalidTable m3_InvalidTable m5_InvalidTable "ValueError.__new__"))
    (rv_InvalidTable : PySem.HandSPX.refsVE bm_InvalidTable = true)
    (sa_InvalidTable : PySem.W.findIn K (.ref C_InvalidTable) "__setattr__" = some (some (.builtin "object.__setattr__")))
    (ga_InvalidTable : PySem.W.findIn K (.ref C_InvalidTable) "__getattribute__" = some (some (.builtin "BaseException.__getattribute__")))
    (gg_InvalidTable : PySem.W.findIn K (.ref C_InvalidTable) "__getattr__" = some none)
    (ex_InvalidTable : PySem.W.subIn K (.ref C_InvalidTable) (.type "BaseException") = some true)
    (ty_InvalidTable : PySem.W.typeIn K (.ref C_InvalidTable) = some (.type "type"))
    (kC_InvalidTable : PySem.W.keepIn K (.ref C_InvalidTable) = true)
    (hd_InvalidTable : PySem.W.hasDictIn K C_InvalidTable = true)
    (ca_InvalidTable : PySem.W.findIn K (.ref C_InvalidTable) "__class__" = some (some (.builtin "object.__class__")))
    (cm_InvalidTable : PySem.W.mroIn K C_InvalidTable (.type "object") = some true)
    (no_InvalidTable_value : PySem.W.findIn K (.ref C_InvalidTable) "value" = some none)
    (ci_InvalidTable : PySem.W.findIn K (.ref C_InvalidTable) "__init__" = some (some (.ref I_InvalidTable)))
    (ti_InvalidTable : PySem.W.typeIn K (.ref I_InvalidTable) = some (.type "function"))
    (li_InvalidTable : K.lookup I_InvalidTable = some ⟨oc_InvalidTable, od_InvalidTable, .func (PySem.W.fnOf "__init__" "InvalidTable.__init__" (defArgs sInvalidTable) (defBody sInvalidTable) (defScope sInvalidTable) .none kV_InvalidTable dc_InvalidTable pm_InvalidTable an_InvalidTable cd_InvalidTable ct_InvalidTable), sl_InvalidTable⟩)
    (cc_InvalidTable : PySem.W.codeIn K cd_InvalidTable "InvalidTable.__init__" = true)
    (ki_InvalidTable : PySem.W.keepIn K (.ref I_InvalidTable) = true)
    (ss_InvalidTable : PySem.W.subIn K (.ref C_InvalidTable) (.ref C_InvalidTable) = some true)
    (xcn : PySem.W.specialIn K (.builtin "object.__class__") "__get__" = some (some (.builtin "getset_descriptor.__get__")))
    (xct : PySem.W.takesIn K (.builtin "object.__class__") = some true)
    (kt_InvalidSpan_BellError : PySem.W.subIn K (.ref C_InvalidSpan) (.ref C_BellError) = some true)
    (kt_InvalidSpan_InvalidMoment : PySem.W.subIn K (.ref C_InvalidSpan) (.ref C_InvalidMoment) = some false)
    (kt_InvalidSpan_InvalidTable : PySem.W.subIn K (.ref C_InvalidSpan) (.ref C_InvalidTable) = some false)
    (kt_InvalidSpan_ValueError : PySem.W.subIn K (.ref C_InvalidSpan) (.type "ValueError") = some true)
    (a_is_whole : PySem.W.nsIn K mainGlobals "is_whole" = some (some (.ref f_is_whole)))
    (l_is_whole : K.lookup f_is_whole = some ⟨oc_is_whole, od_is_whole, .func (PySem.W.fnOf "is_whole" "is_whole" (defArgs sis_whole) (defBody sis_whole) (defScope sis_whole) .none kV_is_whole dc_is_whole pm_is_whole an_is_whole cd_is_whole ct_is_whole), sl_is_whole⟩)
    (c_is_whole : PySem.W.codeIn K cd_is_whole "is_whole" = true)
    (k_is_whole : PySem.W.keepIn K (.ref f_is_whole) = true)
    (a_is_tuple_of : PySem.W.nsIn K mainGlobals "is_tuple_of" = some (some (.ref f_is_tuple_of)))
    (l_is_tuple_of : K.lookup f_is_tuple_of = some ⟨oc_is_tuple_of, od_is_tuple_of, .func (PySem.W.fnOf "is_tuple_of" "is_tuple_of" (defArgs sis_tuple_of) (defBody sis_tuple_of) (defScope sis_tuple_of) .none kV_is_tuple_of dc_is_tuple_of pm_is_tuple_of an_is_tuple_of cd_is_tuple_of ct_is_tuple_of), sl_is_tuple_of⟩)
    (c_is_tuple_of : PySem.W.codeIn K cd_is_tuple_of "is_tuple_of" = true)
    (k_is_tuple_of : PySem.W.keepIn K (.ref f_is_tuple_of) = true)
    (a_in_lowest_terms : PySem.W.nsIn K mainGlobals "in_lowest_terms" = some (some (.ref f_in_lowest_terms)))
    (l_in_lowest_terms : K.lookup f_in_lowest_terms = some ⟨oc_in_lowest_terms, od_in_lowest_terms, .func (PySem.W.fnOf "in_lowest_terms" "in_lowest_terms" (defArgs sin_lowest_terms) (defBody sin_lowest_terms) (defScope sin_lowest_terms) .none kV_in_lowest_terms dc_in_lowest_terms pm_in_lowest_terms an_in_lowest_terms cd_in_lowest_terms ct_in_lowest_terms), sl_in_lowest_terms⟩)
    (c_in_lowest_terms : PySem.W.codeIn K cd_in_lowest_terms "in_lowest_terms" = true)
    (k_in_lowest_terms : PySem.W.keepIn K (.ref f_in_lowest_terms) = true)
    (a_added : PySem.W.nsIn K mainGlobals "added" = some (some (.ref f_added)))
    (l_added : K.lookup f_added = some ⟨oc_added, od_added, .func (PySem.W.fnOf "added" "added" (defArgs sadded) (defBody sadded) (defScope sadded) .none kV_added dc_added pm_added an_added cd_added ct_added), sl_added⟩)
    (c_added : PySem.W.codeIn K cd_added "added" = true)
    (k_added : PySem.W.keepIn K (.ref f_added) = true)
    (a_compared : PySem.W.nsIn K mainGlobals "compared" = some (some (.ref f_compared)))
    (l_compared : K.lookup f_compared = some ⟨oc_compared, od_compared, .func (PySem.W.fnOf "compared" "compared" (defArgs scompared) (defBody scompared) (defScope scompared) .none kV_compared dc_compared pm_compared an_compared cd_compared ct_compared), sl_compared⟩)
    (c_compared : PySem.W.codeIn K cd_compared "compared" = true)
    (k_compared : PySem.W.keepIn K (.ref f_compared) = true)
    (a_halfway : PySem.W.nsIn K mainGlobals "halfway" = some (some (.ref f_halfway)))
    (l_halfway : K.lookup f_halfway = some ⟨oc_halfway, od_halfway, .func (PySem.W.fnOf "halfway" "halfway" (defArgs shalfway) (defBody shalfway) (defScope shalfway) .none kV_halfway dc_halfway pm_halfway an_halfway cd_halfway ct_halfway), sl_halfway⟩)
    (c_halfway : PySem.W.codeIn K cd_halfway "halfway" = true)
    (k_halfway : PySem.W.keepIn K (.ref f_halfway) = true)
    (a_is_edge : PySem.W.nsIn K mainGlobals "is_edge" = some (some (.ref f_is_edge)))
    (l_is_edge : K.lookup f_is_edge = some ⟨oc_is_edge, od_is_edge, .func (PySem.W.fnOf "is_edge" "is_edge" (defArgs sis_edge) (defBody sis_edge) (defScope sis_edge) .none kV_is_edge dc_is_edge pm_is_edge an_is_edge cd_is_edge ct_is_edge), sl_is_edge⟩)
    (c_is_edge : PySem.W.codeIn K cd_is_edge "is_edge" = true)
    (k_is_edge : PySem.W.keepIn K (.ref f_is_edge) = true)
    (a_is_span : PySem.W.nsIn K mainGlobals "is_span" = some (some (.ref f_is_span)))
    (l_is_span : K.lookup f_is_span = some ⟨oc_is_span, od_is_span, .func (PySem.W.fnOf "is_span" "is_span" (defArgs sis_span) (defBody sis_span) (defScope sis_span) .none kV_is_span dc_is_span pm_is_span an_is_span cd_is_span ct_is_span), sl_is_span⟩)
    (c_is_span : PySem.W.codeIn K cd_is_span "is_span" = true)
    (k_is_span : PySem.W.keepIn K (.ref f_is_span) = true)
    (a_has_moment : PySem.W.nsIn K mainGlobals "has_moment" = some (some (.ref f_has_moment)))
    (l_has_moment : K.lookup f_has_moment = some ⟨oc_has_moment, od_has_moment, .func (PySem.W.fnOf "has_moment" "has_moment" (defArgs shas_moment) (defBody shas_moment) (defScope shas_moment) .none kV_has_moment dc_has_moment pm_has_moment an_has_moment cd_has_moment ct_has_moment), sl_has_moment⟩)
    (c_has_moment : PySem.W.codeIn K cd_has_moment "has_moment" = true)
    (k_has_moment : PySem.W.keepIn K (.ref f_has_moment) = true)
    (a_span : PySem.W.nsIn K mainGlobals "span" = some (some (.ref f_span)))
    (l_span : K.lookup f_span = some ⟨oc_span, od_span, .func (PySem.W.fnOf "span" "span" (defArgs sspan) (defBody sspan) (defScope sspan) (.ref T_span) (.ref KD_span) dc_span pm_span an_span cd_span ct_span), sl_span⟩)
    (c_span : PySem.W.codeIn K cd_span "span" = true)
    (k_span : PySem.W.keepIn K (.ref f_span) = true)
    (lt_span : K.lookup T_span = some oT_span)
    (lo_span : oT_span.data = .seq its_span.toArray nT_span)
    (lv_span : Vals [.non] its_span)
    (kq_span_low_reach : PySem.W.nsIn K KD_span "low_reach" = some (some kw_span_low_reach))
    (kr_span_low_reach : RelV (.int 1) kw_span_low_reach)
    (kq_span_high_reach : PySem.W.nsIn K KD_span "high_reach" = some (some kw_span_high_reach))
    (kr_span_high_reach : RelV (.int 1) kw_span_high_reach)
    (a_in_span : PySem.W.nsIn K mainGlobals "in_span" = some (some (.ref f_in_span)))
    (l_in_span : K.lookup f_in_span = some ⟨oc_in_span, od_in_span, .func (PySem.W.fnOf "in_span" "in_span" (defArgs sin_span) (defBody sin_span) (defScope sin_span) .none kV_in_span dc_in_span pm_in_span an_in_span cd_in_span ct_in_span), sl_in_span⟩)
    (c_in_span : PySem.W.codeIn K cd_in_span "in_span" = true)
    (k_in_span : PySem.W.keepIn K (.ref f_in_span) = true)
    (a_low_order : PySem.W.nsIn K mainGlobals "low_order" = some (some (.ref f_low_order)))
    (l_low_order : K.lookup f_low_order = some ⟨oc_low_order, od_low_order, .func (PySem.W.fnOf "low_order" "low_order" (defArgs slow_order) (defBody slow_order) (defScope slow_order) .none kV_low_order dc_low_order pm_low_order an_low_order cd_low_order ct_low_order), sl_low_order⟩)
    (c_low_order : PySem.W.codeIn K cd_low_order "low_order" = true)
    (k_low_order : PySem.W.keepIn K (.ref f_low_order) = true)
    (a_span_meet : PySem.W.nsIn K mainGlobals "span_meet" = some (some (.ref f_span_meet)))
    (l_span_meet : K.lookup f_span_meet = some ⟨oc_span_meet, od_span_meet, .func (PySem.W.fnOf "span_meet" "span_meet" (defArgs sspan_meet) (defBody sspan_meet) (defScope sspan_meet) .none kV_span_meet dc_span_meet pm_span_meet an_span_meet cd_span_meet ct_span_meet), sl_span_meet⟩)
    (c_span_meet : PySem.W.codeIn K cd_span_meet "span_meet" = true)
    (k_span_meet : PySem.W.keepIn K (.ref f_span_meet) = true)
    (a_span_cover : PySem.W.nsIn K mainGlobals "span_cover" = some (some (.ref f_span_cover)))
    (l_span_cover : K.lookup f_span_cover = some ⟨oc_span_cover, od_span_cover, .func (PySem.W.fnOf "span_cover" "span_cover" (defArgs sspan_cover) (defBody sspan_cover) (defScope sspan_cover) .none kV_span_cover dc_span_cover pm_span_cover an_span_cover cd_span_cover ct_span_cover), sl_span_cover⟩)
    (c_span_cover : PySem.W.codeIn K cd_span_cover "span_cover" = true)
    (k_span_cover : PySem.W.keepIn K (.ref f_span_cover) = true)
    (a_span_moment : PySem.W.nsIn K mainGlobals "span_moment" = some (some (.ref f_span_moment)))
    (l_span_moment : K.lookup f_span_moment = some ⟨oc_span_moment, od_span_moment, .func (PySem.W.fnOf "span_moment" "span_moment" (defArgs sspan_moment) (defBody sspan_moment) (defScope sspan_moment) .none kV_span_moment dc_span_moment pm_span_moment an_span_moment cd_span_moment ct_span_moment), sl_span_moment⟩)
    (c_span_moment : PySem.W.codeIn K cd_span_moment "span_moment" = true)
    (k_span_moment : PySem.W.keepIn K (.ref f_span_moment) = true)
    (a__law_box : PySem.W.nsIn K mainGlobals "_law_box" = some (some (.ref f__law_box)))
    (l__law_box : K.lookup f__law_box = some ⟨oc__law_box, od__law_box, .func (PySem.W.fnOf "_law_box" "_law_box" (defArgs s_law_box) (defBody s_law_box) (defScope s_law_box) .none kV__law_box dc__law_box pm__law_box an__law_box cd__law_box ct__law_box), sl__law_box⟩)
    (c__law_box : PySem.W.codeIn K cd__law_box "_law_box" = true)
    (k__law_box : PySem.W.keepIn K (.ref f__law_box) = true)
    (a__law_draw : PySem.W.nsIn K mainGlobals "_law_draw" = some (some (.ref f__law_draw)))
    (l__law_draw : K.lookup f__law_draw = some ⟨oc__law_draw, od__law_draw, .func (PySem.W.fnOf "_law_draw" "_law_draw" (defArgs s_law_draw) (defBody s_law_draw) (defScope s_law_draw) .none kV__law_draw dc__law_draw pm__law_draw an__law_draw cd__law_draw ct__law_draw), sl__law_draw⟩)
    (c__law_draw : PySem.W.codeIn K cd__law_draw "_law_draw" = true)
    (k__law_draw : PySem.W.keepIn K (.ref f__law_draw) = true)
    (a__law_pick : PySem.W.nsIn K mainGlobals "_law_pick" = some (some (.ref f__law_pick)))
    (l__law_pick : K.lookup f__law_pick = some ⟨oc__law_pick, od__law_pick, .func (PySem.W.fnOf "_law_pick" "_law_pick" (defArgs s_law_pick) (defBody s_law_pick) (defScope s_law_pick) .none kV__law_pick dc__law_pick pm__law_pick an__law_pick cd__law_pick ct__law_pick), sl__law_pick⟩)
    (c__law_pick : PySem.W.codeIn K cd__law_pick "_law_pick" = true)
    (k__law_pick : PySem.W.keepIn K (.ref f__law_pick) = true)
    (a__law_same : PySem.W.nsIn K mainGlobals "_law_same" = some (some (.ref f__law_same)))
    (l__law_same : K.lookup f__law_same = some ⟨oc__law_same, od__law_same, .func (PySem.W.fnOf "_law_same" "_law_same" (defArgs s_law_same) (defBody s_law_same) (defScope s_law_same) .none kV__law_same dc__law_same pm__law_same an__law_same cd__law_same ct__law_same), sl__law_same⟩)
    (c__law_same : PySem.W.codeIn K cd__law_same "_law_same" = true)
    (k__law_same : PySem.W.keepIn K (.ref f__law_same) = true)
    (a__law_gcd : PySem.W.nsIn K mainGlobals "_law_gcd" = some (some (.ref f__law_gcd)))
    (l__law_gcd : K.lookup f__law_gcd = some ⟨oc__law_gcd, od__law_gcd, .func (PySem.W.fnOf "_law_gcd" "_law_gcd" (defArgs s_law_gcd) (defBody s_law_gcd) (defScope s_law_gcd) .none kV__law_gcd dc__law_gcd pm__law_gcd an__law_gcd cd__law_gcd ct__law_gcd), sl__law_gcd⟩)
    (c__law_gcd : PySem.W.codeIn K cd__law_gcd "_law_gcd" = true)
    (k__law_gcd : PySem.W.keepIn K (.ref f__law_gcd) = true)
    (a__law_lowest : PySem.W.nsIn K mainGlobals "_law_lowest" = some (some (.ref f__law_lowest)))
    (l__law_lowest : K.lookup f__law_lowest = some ⟨oc__law_lowest, od__law_lowest, .func (PySem.W.fnOf "_law_lowest" "_law_lowest" (defArgs s_law_lowest) (defBody s_law_lowest) (defScope s_law_lowest) .none kV__law_lowest dc__law_lowest pm__law_lowest an__law_lowest cd__law_lowest ct__law_lowest), sl__law_lowest⟩)
    (c__law_lowest : PySem.W.codeIn K cd__law_lowest "_law_lowest" = true)
    (k__law_lowest : PySem.W.keepIn K (.ref f__law_lowest) = true)
    (a__law_limit : PySem.W.nsIn K mainGlobals "_law_limit" = some (some (.ref f__law_limit)))
    (l__law_limit : K.lookup f__law_limit = some ⟨oc__law_limit, od__law_limit, .func (PySem.W.fnOf "_law_limit" "_law_limit" (defArgs s_law_limit) (defBody s_law_limit) (defScope s_law_limit) .none kV__law_limit dc__law_limit pm__law_limit an__law_limit cd__law_limit ct__law_limit), sl__law_limit⟩)
    (c__law_limit : PySem.W.codeIn K cd__law_limit "_law_limit" = true)
    (k__law_limit : PySem.W.keepIn K (.ref f__law_limit) = true)
    (a__law_span : PySem.W.nsIn K mainGlobals "_law_span" = some (some (.ref f__law_span)))
    (l__law_span : K.lookup f__law_span = some ⟨oc__law_span, od__law_span, .func (PySem.W.fnOf "_law_span" "_law_span" (defArgs s_law_span) (defBody s_law_span) (defScope s_law_span) .none kV__law_span dc__law_span pm__law_span an__law_span cd__law_span ct__law_span), sl__law_span⟩)
    (c__law_span : PySem.W.codeIn K cd__law_span "_law_span" = true)
    (k__law_span : PySem.W.keepIn K (.ref f__law_span) = true)
    (a__law_nearby : PySem.W.nsIn K mainGlobals "_law_nearby" = some (some (.ref f__law_nearby)))
    (l__law_nearby : K.lookup f__law_nearby = some ⟨oc__law_nearby, od__law_nearby, .func (PySem.W.fnOf "_law_nearby" "_law_nearby" (defArgs s_law_nearby) (defBody s_law_nearby) (defScope s_law_nearby) .none kV__law_nearby dc__law_nearby pm__law_nearby an__law_nearby cd__law_nearby ct__law_nearby), sl__law_nearby⟩)
    (c__law_nearby : PySem.W.codeIn K cd__law_nearby "_law_nearby" = true)
    (k__law_nearby : PySem.W.keepIn K (.ref f__law_nearby) = true)
    (a__law_holds : PySem.W.nsIn K mainGlobals "_law_holds" = some (some (.ref f__law_holds)))
    (l__law_holds : K.lookup f__law_holds = some ⟨oc__law_holds, od__law_holds, .func (PySem.W.fnOf "_law_holds" "_law_holds" (defArgs s_law_holds) (defBody s_law_holds) (defScope s_law_holds) .none kV__law_holds dc__law_holds pm__law_holds an__law_holds cd__law_holds ct__law_holds), sl__law_holds⟩)
    (c__law_holds : PySem.W.codeIn K cd__law_holds "_law_holds" = true)
    (k__law_holds : PySem.W.keepIn K (.ref f__law_holds) = true)
    (a__law_built : PySem.W.nsIn K mainGlobals "_law_built" = some (some (.ref f__law_built)))
    (l__law_built : K.lookup f__law_built = some ⟨oc__law_built, od__law_built, .func (PySem.W.fnOf "_law_built" "_law_built" (defArgs s_law_built) (defBody s_law_built) (defScope s_law_built) .none kV__law_built dc__law_built pm__law_built an__law_built cd__law_built ct__law_built), sl__law_built⟩)
    (c__law_built : PySem.W.codeIn K cd__law_built "_law_built" = true)
    (k__law_built : PySem.W.keepIn K (.ref f__law_built) = true)
    (a__law_wrong : PySem.W.nsIn K mainGlobals "_law_wrong" = some (some (.ref f__law_wrong)))
    (l__law_wrong : K.lookup f__law_wrong = some ⟨oc__law_wrong, od__law_wrong, .func (PySem.W.fnOf "_law_wrong" "_law_wrong" (defArgs s_law_wrong) (defBody s_law_wrong) (defScope s_law_wrong) .none kV__law_wrong dc__law_wrong pm__law_wrong an__law_wrong cd__law_wrong ct__law_wrong), sl__law_wrong⟩)
    (c__law_wrong : PySem.W.codeIn K cd__law_wrong "_law_wrong" = true)
    (k__law_wrong : PySem.W.keepIn K (.ref f__law_wrong) = true)
    (a__law_met : PySem.W.nsIn K mainGlobals "_law_met" = some (some (.ref f__law_met)))
    (l__law_met : K.lookup f__law_met = some ⟨oc__law_met, od__law_met, .func (PySem.W.fnOf "_law_met" "_law_met" (defArgs s_law_met) (defBody s_law_met) (defScope s_law_met) .none kV__law_met dc__law_met pm__law_met an__law_met cd__law_met ct__law_met), sl__law_met⟩)
    (c__law_met : PySem.W.codeIn K cd__law_met "_law_met" = true)
    (k__law_met : PySem.W.keepIn K (.ref f__law_met) = true)
    (a__law_covered : PySem.W.nsIn K mainGlobals "_law_covered" = some (some (.ref f__law_covered)))
    (l__law_covered : K.lookup f__law_covered = some ⟨oc__law_covered, od__law_covered, .func (PySem.W.fnOf "_law_covered" "_law_covered" (defArgs s_law_covered) (defBody s_law_covered) (defScope s_law_covered) .none kV__law_covered dc__law_covered pm__law_covered an__law_covered cd__law_covered ct__law_covered), sl__law_covered⟩)
    (c__law_covered : PySem.W.codeIn K cd__law_covered "_law_covered" = true)
    (k__law_covered : PySem.W.keepIn K (.ref f__law_covered) = true)
    (a__law_hull : PySem.W.nsIn K mainGlobals "_law_hull" = some (some (.ref f__law_hull)))
    (l__law_hull : K.lookup f__law_hull = some ⟨oc__law_hull, od__law_hull, .func (PySem.W.fnOf "_law_hull" "_law_hull" (defArgs s_law_hull) (defBody s_law_hull) (defScope s_law_hull) .none kV__law_hull dc__law_hull pm__law_hull an__law_hull cd__law_hull ct__law_hull), sl__law_hull⟩)
    (c__law_hull : PySem.W.codeIn K cd__law_hull "_law_hull" = true)
    (k__law_hull : PySem.W.keepIn K (.ref f__law_hull) = true)
    (a__law_top : PySem.W.nsIn K mainGlobals "_law_top" = some (some (.ref f__law_top)))
    (l__law_top : K.lookup f__law_top = some ⟨oc__law_top, od__law_top, .func (PySem.W.fnOf "_law_top" "_law_top" (defArgs s_law_top) (defBody s_law_top) (defScope s_law_top) .none kV__law_top dc__law_top pm__law_top an__law_top cd__law_top ct__law_top), sl__law_top⟩)
    (c__law_top : PySem.W.codeIn K cd__law_top "_law_top" = true)
    (k__law_top : PySem.W.keepIn K (.ref f__law_top) = true)
    (a__law_joins_hold : PySem.W.nsIn K mainGlobals "_law_joins_hold" = some (some (.ref f__law_joins_hold)))
    (l__law_joins_hold : K.lookup f__law_joins_hold = some ⟨oc__law_joins_hold, od__law_joins_hold, .func (PySem.W.fnOf "_law_joins_hold" "_law_joins_hold" (defArgs s_law_joins_hold) (defBody s_law_joins_hold) (defScope s_law_joins_hold) .none kV__law_joins_hold dc__law_joins_hold pm__law_joins_hold an__law_joins_hold cd__law_joins_hold ct__law_joins_hold), sl__law_joins_hold⟩)
    (c__law_joins_hold : PySem.W.codeIn K cd__law_joins_hold "_law_joins_hold" = true)
    (k__law_joins_hold : PySem.W.keepIn K (.ref f__law_joins_hold) = true)
    (a__law_moment_of : PySem.W.nsIn K mainGlobals "_law_moment_of" = some (some (.ref f__law_moment_of)))
    (l__law_moment_of : K.lookup f__law_moment_of = some ⟨oc__law_moment_of, od__law_moment_of, .func (PySem.W.fnOf "_law_moment_of" "_law_moment_of" (defArgs s_law_moment_of) (defBody s_law_moment_of) (defScope s_law_moment_of) .none kV__law_moment_of dc__law_moment_of pm__law_moment_of an__law_moment_of cd__law_moment_of ct__law_moment_of), sl__law_moment_of⟩)
    (c__law_moment_of : PySem.W.codeIn K cd__law_moment_of "_law_moment_of" = true)
    (k__law_moment_of : PySem.W.keepIn K (.ref f__law_moment_of) = true)
    (a_law : PySem.W.nsIn K mainGlobals "law" = some (some (.ref f_law)))
    (l_law : K.lookup f_law = some ⟨oc_law, od_law, .func (PySem.W.fnOf "law" "law" (defArgs slaw) (defBody slaw) (defScope slaw) .none kV_law dc_law pm_law an_law cd_law ct_law), sl_law⟩)
    (c_law : PySem.W.codeIn K cd_law "law" = true)
    (k_law : PySem.W.keepIn K (.ref f_law) = true)
    : ∃ fd : FuncData, (∀ (s : Shared) (v : Value), BindsTo s fd ⟨[v], []⟩ [("script", v)]) ∧ ∀ base : Heap, K.In base → base.Ns mainGlobals mg → FnOk P w K mg base (L2N.CX P w) 9 fa fd ["script"] (spLaw K) := by
  have e : fa = f_law := Value.ref.inj (Option.some.inj (hfa.symm.trans (PySem.W.mg_of X G a_law)))
  let T : Tx K mg := {
    b_ValueError := PySem.W.mg_none_of X G gB_ValueError,
    b_all := PySem.W.mg_none_of X G gB_all,
    b_bool := PySem.W.mg_none_of X G gB_bool,
    b_gcd := PySem.W.mg_of X G gB_gcd,
    b_int := PySem.W.mg_none_of X G gB_int,
    b_isinstance := PySem.W.mg_none_of X G gB_isinstance,
    b_len := PySem.W.mg_none_of X G gB_len,
    b_list := PySem.W.mg_none_of X G gB_list,
    b_max := PySem.W.mg_none_of X G gB_max,
    b_min := PySem.W.mg_none_of X G gB_min,
    b_range := PySem.W.mg_none_of X G gB_range,
    b_reversed := PySem.W.mg_none_of X G gB_reversed,
    b_set := PySem.W.mg_none_of X G gB_set,
    b_sorted := PySem.W.mg_none_of X G gB_sorted,
    b_str := PySem.W.mg_none_of X G gB_str,
    b_tuple := PySem.W.mg_none_of X G gB_tuple,
    w_EVER := ad_EVER_0,
    v_EVER := PySem.W.mg_of X G v_EVER,
    r_EVER := fun H ι => (.tupK (stT_of tl_EVER_0 tc_EVER_0 td_EVER_0 ts_EVER_0 (by decide) tv_EVER_0) (.cons (.tupK (stT_of tl_EVER_1 tc_EVER_1 td_EVER_1 ts_EVER_1 (by decide) tv_EVER_1) (.cons (.int _) (.cons (.int _) .nil))) (.cons .non .nil))),
    c_BellError := C_BellError,
    gl_BellError := PySem.W.mg_of X G a_BellError,
    c_InvalidMoment := C_InvalidMoment,
    ci_InvalidMoment := I_InvalidMoment,
    di_InvalidMoment := PySem.W.fnOf "__init__" "InvalidMoment.__init__" (defArgs sInvalidMoment) (defBody sInvalidMoment) (defScope sInvalidMoment) .none kV_InvalidMoment dc_InvalidMoment pm_InvalidMoment an_InvalidMoment cd_InvalidMoment ct_InvalidMoment,
    e_InvalidMoment := ⟨PySem.W.mg_of X G a_InvalidMoment, ⟨⟨_, _, _, _, _, _, _, _, _, _, _, _, _, _, _, xl_InvalidMoment, rv_InvalidMoment⟩, sa_InvalidMoment, ex_InvalidMoment, ty_InvalidMoment, kC_InvalidMoment⟩, ⟨ga_InvalidMoment, gg_InvalidMoment, ex_InvalidMoment, hd_InvalidMoment⟩, cl_of hd_InvalidMoment, ca_InvalidMoment, xcn, xct, cm_InvalidMoment, (no1 no_InvalidMoment_value)⟩,
    i_InvalidMoment := ci_InvalidMoment,
    t_InvalidMoment := ti_InvalidMoment,
    u_InvalidMoment := fun_mk li_InvalidMoment cc_InvalidMoment ki_InvalidMoment,
    x_InvalidMoment := PySem.W.exm_ref ex_InvalidMoment hd_InvalidMoment ty_InvalidMoment ss_InvalidMoment,
    c_InvalidSpan := C_InvalidSpan,
    ci_InvalidSpan := I_InvalidSpan,
    di_InvalidSpan := PySem.W.fnOf "__init__" "InvalidSpan.__init__" (defArgs sInvalidSpan) (defBody sInvalidSpan) (defScope sInvalidSpan) .none kV_InvalidSpan dc_InvalidSpan pm_InvalidSpan an_InvalidSpan cd_InvalidSpan ct_InvalidSpan,
    e_InvalidSpan := ⟨PySem.W.mg_of X G a_InvalidSpan, ⟨⟨_, _, _, _, _, _, _, _, _, _, _, _, _, _, _, xl_InvalidSpan, rv_InvalidSpan⟩, sa_InvalidSpan, ex_InvalidSpan, ty_InvalidSpan, kC_InvalidSpan⟩, ⟨ga_InvalidSpan, gg_InvalidSpan, ex_InvalidSpan, hd_InvalidSpan⟩, cl_of hd_InvalidSpan, ca_InvalidSpan, xcn, xct, cm_InvalidSpan, (no1 no_InvalidSpan_value)⟩,
    i_InvalidSpan := ci_InvalidSpan,
    t_InvalidSpan := ti_InvalidSpan,
    u_InvalidSpan := fun_mk li_InvalidSpan cc_InvalidSpan ki_InvalidSpan,
    x_InvalidSpan := PySem.W.exm_ref ex_InvalidSpan hd_InvalidSpan ty_InvalidSpan ss_InvalidSpan,
    c_InvalidTable := C_InvalidTable,
    ci_InvalidTable := I_InvalidTable,
    di_InvalidTable := PySem.W.fnOf "__init__" "InvalidTable.__init__" (defArgs sInvalidTable) (defBody sInvalidTable) (defScope sInvalidTable) .none kV_InvalidTable dc_InvalidTable pm_InvalidTable an_InvalidTable cd_InvalidTable ct_InvalidTable,
    e_InvalidTable := ⟨PySem.W.mg_of X G a_InvalidTable, ⟨⟨_, _, _, _, _, _, _, _, _, _, _, _, _, _, _, xl_InvalidTable, rv_InvalidTable⟩, sa_InvalidTable, ex_InvalidTable, ty_InvalidTable, kC_InvalidTable⟩, ⟨ga_InvalidTable, gg_InvalidTable, ex_InvalidTable, hd_InvalidTable⟩, cl_of hd_InvalidTable, ca_InvalidTable, xcn, xct, cm_InvalidTable, (no1 no_InvalidTable_value)⟩,
    i_InvalidTable := ci_InvalidTable,
    t_InvalidTable := ti_InvalidTable,
    u_InvalidTable := fun_mk li_InvalidTable cc_InvalidTable ki_InvalidTable,
    x_InvalidTable := PySem.W.exm_ref ex_InvalidTable hd_InvalidTable ty_InvalidTable ss_InvalidTable,
    k_InvalidSpan_BellError := kit_ref hd_BellError ty_BellError kt_InvalidSpan_BellError ss_InvalidSpan,
    k_InvalidSpan_InvalidMoment := kit_ref hd_InvalidMoment ty_InvalidMoment kt_InvalidSpan_InvalidMoment ss_InvalidSpan,
    k_InvalidSpan_InvalidTable := kit_ref hd_InvalidTable ty_InvalidTable kt_InvalidSpan_InvalidTable ss_InvalidSpan,
    k_InvalidSpan_ValueError := kit_typ (by decide +kernel) kt_InvalidSpan_ValueError,
    a_is_whole := f_is_whole,
    d_is_whole := PySem.W.fnOf "is_whole" "is_whole" (defArgs sis_whole) (defBody sis_whole) (defScope sis_whole) .none kV_is_whole dc_is_whole pm_is_whole an_is_whole cd_is_whole ct_is_whole,
    g_is_whole := PySem.W.mg_of X G a_is_whole,
    u_is_whole := fun_mk l_is_whole c_is_whole k_is_whole,
    k_is_whole := k_is_whole,
    a_is_tuple_of := f_is_tuple_of,
    d_is_tuple_of := PySem.W.fnOf "is_tuple_of" "is_tuple_of" (defArgs sis_tuple_of) (defBody sis_tuple_of) (defScope sis_tuple_of) .none kV_is_tuple_of dc_is_tuple_of pm_is_tuple_of an_is_tuple_of cd_is_tuple_of ct_is_tuple_of,
    g_is_tuple_of := PySem.W.mg_of X G a_is_tuple_of,
    u_is_tuple_of := fun_mk l_is_tuple_of c_is_tuple_of k_is_tuple_of,
    k_is_tuple_of := k_is_tuple_of,
    a_in_lowest_terms := f_in_lowest_terms,
    d_in_lowest_terms := PySem.W.fnOf "in_lowest_terms" "in_lowest_terms" (defArgs sin_lowest_terms) (defBody sin_lowest_terms) (defScope sin_lowest_terms) .none kV_in_lowest_terms dc_in_lowest_terms pm_in_lowest_terms an_in_lowest_terms cd_in_lowest_terms ct_in_lowest_terms,
    g_in_lowest_terms := PySem.W.mg_of X G a_in_lowest_terms,
    u_in_lowest_terms := fun_mk l_in_lowest_terms c_in_lowest_terms k_in_lowest_terms,
    k_in_lowest_terms := k_in_lowest_terms,
    a_added := f_added,
    d_added := PySem.W.fnOf "added" "added" (defArgs sadded) (defBody sadded) (defScope sadded) .none kV_added dc_added pm_added an_added cd_added ct_added,
    g_added := PySem.W.mg_of X G a_added,
    u_added := fun_mk l_added c_added k_added,
    k_added := k_added,
    a_compared := f_compared,
    d_compared := PySem.W.fnOf "compared" "compared" (defArgs scompared) (defBody scompared) (defScope scompared) .none kV_compared dc_compared pm_compared an_compared cd_compared ct_compared,
    g_compared := PySem.W.mg_of X G a_compared,
    u_compared := fun_mk l_compared c_compared k_compared,
    k_compared := k_compared,
    a_halfway := f_halfway,
    d_halfway := PySem.W.fnOf "halfway" "halfway" (defArgs shalfway) (defBody shalfway) (defScope shalfway) .none kV_halfway dc_halfway pm_halfway an_halfway cd_halfway ct_halfway,
    g_halfway := PySem.W.mg_of X G a_halfway,
    u_halfway := fun_mk l_halfway c_halfway k_halfway,
    k_halfway := k_halfway,
    a_is_edge := f_is_edge,
    d_is_edge := PySem.W.fnOf "is_edge" "is_edge" (defArgs sis_edge) (defBody sis_edge) (defScope sis_edge) .none kV_is_edge dc_is_edge pm_is_edge an_is_edge cd_is_edge ct_is_edge,
    g_is_edge := PySem.W.mg_of X G a_is_edge,
    u_is_edge := fun_mk l_is_edge c_is_edge k_is_edge,
    k_is_edge := k_is_edge,
    a_is_span := f_is_span,
    d_is_span := PySem.W.fnOf "is_span" "is_span" (defArgs sis_span) (defBody sis_span) (defScope sis_span) .none kV_is_span dc_is_span pm_is_span an_is_span cd_is_span ct_is_span,
    g_is_span := PySem.W.mg_of X G a_is_span,
    u_is_span := fun_mk l_is_span c_is_span k_is_span,
    k_is_span := k_is_span,
    a_has_moment := f_has_moment,
    d_has_moment := PySem.W.fnOf "has_moment" "has_moment" (defArgs shas_moment) (defBody shas_moment) (defScope shas_moment) .none kV_has_moment dc_has_moment pm_has_moment an_has_moment cd_has_moment ct_has_moment,
    g_has_moment := PySem.W.mg_of X G a_has_moment,
    u_has_moment := fun_mk l_has_moment c_has_moment k_has_moment,
    k_has_moment := k_has_moment,
    a_span := f_span,
    d_span := PySem.W.fnOf "span" "span" (defArgs sspan) (defBody sspan) (defScope sspan) (.ref T_span) (.ref KD_span) dc_span pm_span an_span cd_span ct_span,
    g_span := PySem.W.mg_of X G a_span,
    u_span := ⟨⟨_, _, _, _, _, _, _, _, _, _, rfl, l_span, c_span, .inr ⟨by simp, T_span, oT_span, its_span, nT_span, rfl, lt_span, lo_span, lv_span⟩, .inr ⟨KD_span, rfl, fun q hq => by
        simp only [List.mem_cons, List.not_mem_nil, or_false] at hq
        rcases hq with rfl | rfl
        · exact ⟨_, kq_span_low_reach, kr_span_low_reach⟩
        · exact ⟨_, kq_span_high_reach, kr_span_high_reach⟩⟩⟩, k_span⟩,
    k_span := k_span,
    a_in_span := f_in_span,
    d_in_span := PySem.W.fnOf "in_span" "in_span" (defArgs sin_span) (defBody sin_span) (defScope sin_span) .none kV_in_span dc_in_span pm_in_span an_in_span cd_in_span ct_in_span,
    g_in_span := PySem.W.mg_of X G a_in_span,
    u_in_span := fun_mk l_in_span c_in_span k_in_span,
    k_in_span := k_in_span,
    a_low_order := f_low_order,
    d_low_order := PySem.W.fnOf "low_order" "low_order" (defArgs slow_order) (defBody slow_order) (defScope slow_order) .none kV_low_order dc_low_order pm_low_order an_low_order cd_low_order ct_low_order,
    g_low_order := PySem.W.mg_of X G a_low_order,
    u_low_order := fun_mk l_low_order c_low_order k_low_order,
    k_low_order := k_low_order,
    a_span_meet := f_span_meet,
    d_span_meet := PySem.W.fnOf "span_meet" "span_meet" (defArgs sspan_meet) (defBody sspan_meet) (defScope sspan_meet) .none kV_span_meet dc_span_meet pm_span_meet an_span_meet cd_span_meet ct_span_meet,
    g_span_meet := PySem.W.mg_of X G a_span_meet,
    u_span_meet := fun_mk l_span_meet c_span_meet k_span_meet,
    k_span_meet := k_span_meet,
    a_span_cover := f_span_cover,
    d_span_cover := PySem.W.fnOf "span_cover" "span_cover" (defArgs sspan_cover) (defBody sspan_cover) (defScope sspan_cover) .none kV_span_cover dc_span_cover pm_span_cover an_span_cover cd_span_cover ct_span_cover,
    g_span_cover := PySem.W.mg_of X G a_span_cover,
    u_span_cover := fun_mk l_span_cover c_span_cover k_span_cover,
    k_span_cover := k_span_cover,
    a_span_moment := f_span_moment,
    d_span_moment := PySem.W.fnOf "span_moment" "span_moment" (defArgs sspan_moment) (defBody sspan_moment) (defScope sspan_moment) .none kV_span_moment dc_span_moment pm_span_moment an_span_moment cd_span_moment ct_span_moment,
    g_span_moment := PySem.W.mg_of X G a_span_moment,
    u_span_moment := fun_mk l_span_moment c_span_moment k_span_moment,
    k_span_moment := k_span_moment,
    a__law_box := f__law_box,
    d__law_box := PySem.W.fnOf "_law_box" "_law_box" (defArgs s_law_box) (defBody s_law_box) (defScope s_law_box) .none kV__law_box dc__law_box pm__law_box an__law_box cd__law_box ct__law_box,
    g__law_box := PySem.W.mg_of X G a__law_box,
    u__law_box := fun_mk l__law_box c__law_box k__law_box,
    k__law_box := k__law_box,
    a__law_draw := f__law_draw,
    d__law_draw := PySem.W.fnOf "_law_draw" "_law_draw" (defArgs s_law_draw) (defBody s_law_draw) (defScope s_law_draw) .none kV__law_draw dc__law_draw pm__law_draw an__law_draw cd__law_draw ct__law_draw,
    g__law_draw := PySem.W.mg_of X G a__law_draw,
    u__law_draw := fun_mk l__law_draw c__law_draw k__law_draw,
    k__law_draw := k__law_draw,
    a__law_pick := f__law_pick,
    d__law_pick := PySem.W.fnOf "_law_pick" "_law_pick" (defArgs s_law_pick) (defBody s_law_pick) (defScope s_law_pick) .none kV__law_pick dc__law_pick pm__law_pick an__law_pick cd__law_pick ct__law_pick,
    g__law_pick := PySem.W.mg_of X G a__law_pick,
    u__law_pick := fun_mk l__law_pick c__law_pick k__law_pick,
    k__law_pick := k__law_pick,
    a__law_same := f__law_same,
    d__law_same := PySem.W.fnOf "_law_same" "_law_same" (defArgs s_law_same) (defBody s_law_same) (defScope s_law_same) .none kV__law_same dc__law_same pm__law_same an__law_same cd__law_same ct__law_same,
    g__law_same := PySem.W.mg_of X G a__law_same,
    u__law_same := fun_mk l__law_same c__law_same k__law_same,
    k__law_same := k__law_same,
    a__law_gcd := f__law_gcd,
    d__law_gcd := PySem.W.fnOf "_law_gcd" "_law_gcd" (defArgs s_law_gcd) (defBody s_law_gcd) (defScope s_law_gcd) .none kV__law_gcd dc__law_gcd pm__law_gcd an__law_gcd cd__law_gcd ct__law_gcd,
    g__law_gcd := PySem.W.mg_of X G a__law_gcd,
    u__law_gcd := fun_mk l__law_gcd c__law_gcd k__law_gcd,
    k__law_gcd := k__law_gcd,
    a__law_lowest := f__law_lowest,
    d__law_lowest := PySem.W.fnOf "_law_lowest" "_law_lowest" (defArgs s_law_lowest) (defBody s_law_lowest) (defScope s_law_lowest) .none kV__law_lowest dc__law_lowest pm__law_lowest an__law_lowest cd__law_lowest ct__law_lowest,
    g__law_lowest := PySem.W.mg_of X G a__law_lowest,
    u__law_lowest := fun_mk l__law_lowest c__law_lowest k__law_lowest,
    k__law_lowest := k__law_lowest,
    a__law_limit := f__law_limit,
    d__law_limit := PySem.W.fnOf "_law_limit" "_law_limit" (defArgs s_law_limit) (defBody s_law_limit) (defScope s_law_limit) .none kV__law_limit dc__law_limit pm__law_limit an__law_limit cd__law_limit ct__law_limit,
    g__law_limit := PySem.W.mg_of X G a__law_limit,
    u__law_limit := fun_mk l__law_limit c__law_limit k__law_limit,
    k__law_limit := k__law_limit,
    a__law_span := f__law_span,
    d__law_span := PySem.W.fnOf "_law_span" "_law_span" (defArgs s_law_span) (defBody s_law_span) (defScope s_law_span) .none kV__law_span dc__law_span pm__law_span an__law_span cd__law_span ct__law_span,
    g__law_span := PySem.W.mg_of X G a__law_span,
    u__law_span := fun_mk l__law_span c__law_span k__law_span,
    k__law_span := k__law_span,
    a__law_nearby := f__law_nearby,
    d__law_nearby := PySem.W.fnOf "_law_nearby" "_law_nearby" (defArgs s_law_nearby) (defBody s_law_nearby) (defScope s_law_nearby) .none kV__law_nearby dc__law_nearby pm__law_nearby an__law_nearby cd__law_nearby ct__law_nearby,
    g__law_nearby := PySem.W.mg_of X G a__law_nearby,
    u__law_nearby := fun_mk l__law_nearby c__law_nearby k__law_nearby,
    k__law_nearby := k__law_nearby,
    a__law_holds := f__law_holds,
    d__law_holds := PySem.W.fnOf "_law_holds" "_law_holds" (defArgs s_law_holds) (defBody s_law_holds) (defScope s_law_holds) .none kV__law_holds dc__law_holds pm__law_holds an__law_holds cd__law_holds ct__law_holds,
    g__law_holds := PySem.W.mg_of X G a__law_holds,
    u__law_holds := fun_mk l__law_holds c__law_holds k__law_holds,
    k__law_holds := k__law_holds,
    a__law_built := f__law_built,
    d__law_built := PySem.W.fnOf "_law_built" "_law_built" (defArgs s_law_built) (defBody s_law_built) (defScope s_law_built) .none kV__law_built dc__law_built pm__law_built an__law_built cd__law_built ct__law_built,
    g__law_built := PySem.W.mg_of X G a__law_built,
    u__law_built := fun_mk l__law_built c__law_built k__law_built,
    k__law_built := k__law_built,
    a__law_wrong := f__law_wrong,
    d__law_wrong := PySem.W.fnOf "_law_wrong" "_law_wrong" (defArgs s_law_wrong) (defBody s_law_wrong) (defScope s_law_wrong) .none kV__law_wrong dc__law_wrong pm__law_wrong an__law_wrong cd__law_wrong ct__law_wrong,
    g__law_wrong := PySem.W.mg_of X G a__law_wrong,
    u__law_wrong := fun_mk l__law_wrong c__law_wrong k__law_wrong,
    k__law_wrong := k__law_wrong,
    a__law_met := f__law_met,
    d__law_met := PySem.W.fnOf "_law_met" "_law_met" (defArgs s_law_met) (defBody s_law_met) (defScope s_law_met) .none kV__law_met dc__law_met pm__law_met an__law_met cd__law_met ct__law_met,
    g__law_met := PySem.W.mg_of X G a__law_met,
    u__law_met := fun_mk l__law_met c__law_met k__law_met,
    k__law_met := k__law_met,
    a__law_covered := f__law_covered,
    d__law_covered := PySem.W.fnOf "_law_covered" "_law_covered" (defArgs s_law_covered) (defBody s_law_covered) (defScope s_law_covered) .none kV__law_covered dc__law_covered pm__law_covered an__law_covered cd__law_covered ct__law_covered,
    g__law_covered := PySem.W.mg_of X G a__law_covered,
    u__law_covered := fun_mk l__law_covered c__law_covered k__law_covered,
    k__law_covered := k__law_covered,
    a__law_hull := f__law_hull,
    d__law_hull := PySem.W.fnOf "_law_hull" "_law_hull" (defArgs s_law_hull) (defBody s_law_hull) (defScope s_law_hull) .none kV__law_hull dc__law_hull pm__law_hull an__law_hull cd__law_hull ct__law_hull,
    g__law_hull := PySem.W.mg_of X G a__law_hull,
    u__law_hull := fun_mk l__law_hull c__law_hull k__law_hull,
    k__law_hull := k__law_hull,
    a__law_top := f__law_top,
    d__law_top := PySem.W.fnOf "_law_top" "_law_top" (defArgs s_law_top) (defBody s_law_top) (defScope s_law_top) .none kV__law_top dc__law_top pm__law_top an__law_top cd__law_top ct__law_top,
    g__law_top := PySem.W.mg_of X G a__law_top,
    u__law_top := fun_mk l__law_top c__law_top k__law_top,
    k__law_top := k__law_top,
    a__law_joins_hold := f__law_joins_hold,
    d__law_joins_hold := PySem.W.fnOf "_law_joins_hold" "_law_joins_hold" (defArgs s_law_joins_hold) (defBody s_law_joins_hold) (defScope s_law_joins_hold) .none kV__law_joins_hold dc__law_joins_hold pm__law_joins_hold an__law_joins_hold cd__law_joins_hold ct__law_joins_hold,
    g__law_joins_hold := PySem.W.mg_of X G a__law_joins_hold,
    u__law_joins_hold := fun_mk l__law_joins_hold c__law_joins_hold k__law_joins_hold,
    k__law_joins_hold := k__law_joins_hold,
    a__law_moment_of := f__law_moment_of,
    d__law_moment_of := PySem.W.fnOf "_law_moment_of" "_law_moment_of" (defArgs s_law_moment_of) (defBody s_law_moment_of) (defScope s_law_moment_of) .none kV__law_moment_of dc__law_moment_of pm__law_moment_of an__law_moment_of cd__law_moment_of ct__law_moment_of,
    g__law_moment_of := PySem.W.mg_of X G a__law_moment_of,
    u__law_moment_of := fun_mk l__law_moment_of c__law_moment_of k__law_moment_of,
    k__law_moment_of := k__law_moment_of,
    a_law := f_law,
    d_law := PySem.W.fnOf "law" "law" (defArgs slaw) (defBody slaw) (defScope slaw) .none kV_law dc_law pm_law an_law cd_law ct_law,
    g_law := PySem.W.mg_of X G a_law,
    u_law := fun_mk l_law c_law k_law,
    k_law := k_law }
  exact ⟨T.d_law, fun s v => .of_eq rfl, fun base _ _ => by rw [e]; exact (ok_law T).imp (law_sp hF)⟩
end K03
end

section
set_option Elab.async false
set_option maxRecDepth 100000
open PySem PySem.W PyProof.Rows in
set_option maxRecDepth 100000 in
set_option maxHeartbeats 0 in
theorem PySem.Challenge.cw_bellrest_k03_spans_met_and_covered_holds : PySem.Challenge.rw_bellrest_k03_spans_met_and_covered.Holds := by
  w_on; o_law; k_head; (case hw => w_witness2)
  k_fill
  refine Z.walk_Z (l := PySem.Challenge.rw_bellrest_k03_spans_met_and_covered) (k := 9) rfl rfl ⟨rfl, by decide, by decide⟩ (fun w h Y => PySem.W.kIn_of Y) ?F
  case F =>
    intro w mg fa h KX G hmg
    refine' K03.all_mk KX G hmg K03.holds ?gB_ValueError ?gB_all ?gB_bool ?gB_gcd ?gB_int ?gB_isinstance ?gB_len ?gB_list ?gB_max ?gB_min ?gB_range ?gB_reversed ?gB_set ?gB_sorted ?gB_str ?gB_tuple ?v_EVER ?tl_EVER_0 ?tc_EVER_0 ?td_EVER_0 ?ts_EVER_0 ?tv_EVER_0 ?tl_EVER_1 ?tc_EVER_1 ?td_EVER_1 ?ts_EVER_1 ?tv_EVER_1 ?a_BellError ?hd_BellError ?ty_BellError ?a_InvalidMoment ?xl_InvalidMoment ?rv_InvalidMoment ?sa_InvalidMoment ?ga_InvalidMoment ?gg_InvalidMoment ?ex_InvalidMoment ?ty_InvalidMoment ?kC_InvalidMoment ?hd_InvalidMoment ?ca_InvalidMoment ?cm_InvalidMoment ?no_InvalidMoment_value ?ci_InvalidMoment ?ti_InvalidMoment ?li_InvalidMoment ?cc_InvalidMoment ?ki_InvalidMoment ?ss_InvalidMoment ?a_InvalidSpan ?xl_InvalidSpan ?rv_InvalidSpan ?sa_InvalidSpan ?ga_InvalidSpan ?gg_InvalidSpan ?ex_InvalidSpan ?ty_InvalidSpan ?kC_InvalidSpan ?hd_InvalidSpan ?ca_InvalidSpan ?cm_InvalidSpan ?no_InvalidSpan_value ?ci_InvalidSpan ?ti_InvalidSpan ?li_InvalidSpan ?cc_InvalidSpan ?ki_InvalidSpan ?ss_InvalidSpan ?a_InvalidTable ?xl_InvalidTable ?rv_InvalidTable ?sa_InvalidTable ?ga_InvalidTable ?gg_InvalidTable ?ex_InvalidTable ?ty_InvalidTable ?kC_InvalidTable ?hd_InvalidTable ?ca_InvalidTable ?cm_InvalidTable ?no_InvalidTable_value ?ci_InvalidTable ?ti_InvalidTable ?li_InvalidTable ?cc_InvalidTable ?ki_InvalidTable ?ss_InvalidTable ?xcn ?xct ?kt_InvalidSpan_BellError ?kt_InvalidSpan_InvalidMoment ?kt_InvalidSpan_InvalidTable ?kt_InvalidSpan_ValueError ?a_is_whole ?l_is_whole ?c_is_whole ?k_is_whole ?a_is_tuple_of ?l_is_tuple_of ?c_is_tuple_of ?k_is_tuple_of ?a_in_lowest_terms ?l_in_lowest_terms ?c_in_lowest_terms ?k_in_lowest_terms ?a_added ?l_added ?c_added ?k_added ?a_compared ?l_compared ?c_compared ?k_compared ?a_halfway ?l_halfway ?c_halfway ?k_halfway ?a_is_edge ?l_is_edge ?c_is_edge ?k_is_edge ?a_is_span ?l_is_span ?c_is_span ?k_is_span ?a_has_moment ?l_has_moment ?c_has_moment ?k_has_moment ?a_span ?l_span ?c_span ?k_span ?lt_span ?lo_span ?lv_span ?kq_span_low_reach ?kr_span_low_reach ?kq_span_high_reach ?kr_span_high_reach ?a_in_span ?l_in_span ?c_in_span ?k_in_span ?a_low_order ?l_low_order ?c_low_order ?k_low_order ?a_span_meet ?l_span_meet ?c_span_meet ?k_span_meet ?a_span_cover ?l_span_cover ?c_span_cover ?k_span_cover ?a_span_moment ?l_span_moment ?c_span_moment ?k_span_moment ?a__law_box ?l__law_box ?c__law_box ?k__law_box ?a__law_draw ?l__law_draw ?c__law_draw ?k__law_draw ?a__law_pick ?l__law_pick ?c__law_pick ?k__law_pick ?a__law_same ?l__law_same ?c__law_same ?k__law_same ?a__law_gcd ?l__law_gcd ?c__law_gcd ?k__law_gcd ?a__law_lowest ?l__law_lowest ?c__law_lowest ?k__law_lowest ?a__law_limit ?l__law_limit ?c__law_limit ?k__law_limit ?a__law_span ?l__law_span ?c__law_span ?k__law_span ?a__law_nearby ?l__law_nearby ?c__law_nearby ?k__law_nearby ?a__law_holds ?l__law_holds ?c__law_holds ?k__law_holds ?a__law_built ?l__law_built ?c__law_built ?k__law_built ?a__law_wrong ?l__law_wrong ?c__law_wrong ?k__law_wrong ?a__law_met ?l__law_met ?c__law_met ?k__law_met ?a__law_covered ?l__law_covered ?c__law_covered ?k__law_covered ?a__law_hull ?l__law_hull ?c__law_hull ?k__law_hull ?a__law_top ?l__law_top ?c__law_top ?k__law_top ?a__law_joins_hold ?l__law_joins_hold ?c__law_joins_hold ?k__law_joins_hold ?a__law_moment_of ?l__law_moment_of ?c__law_moment_of ?k__law_moment_of ?a_law ?l_law ?c_law ?k_law
    (case gB_ValueError => k_is)
    (case gB_all => k_is)
    (case gB_bool => k_is)
    (case gB_gcd => k_is)
    (case gB_int => k_is)
    (case gB_isinstance => k_is)
    (case gB_len => k_is)
    (case gB_list => k_is)
    (case gB_max => k_is)
    (case gB_min => k_is)
    (case gB_range => k_is)
    (case gB_reversed => k_is)
    (case gB_set => k_is)
    (case gB_sorted => k_is)
    (case gB_str => k_is)
    (case gB_tuple => k_is)
    (case v_EVER => k_is)
    (case tl_EVER_0 => k_is)
    (case tc_EVER_0 => rfl)
    (case td_EVER_0 => rfl)
    (case ts_EVER_0 => rfl)
    (case tv_EVER_0 => exact .cons rfl (.cons rfl (.nil)))
    (case tl_EVER_1 => k_is)
    (case tc_EVER_1 => rfl)
    (case td_EVER_1 => rfl)
    (case ts_EVER_1 => rfl)
    (case tv_EVER_1 => exact .cons ⟨_, rfl⟩ (.cons ⟨_, rfl⟩ (.nil)))
    (case a_BellError => k_is)
    (case hd_BellError => k_is)
    (case ty_BellError => k_is)
    (case a_InvalidMoment => k_is)
    (case xl_InvalidMoment => k_is)
    (case rv_InvalidMoment => decide +kernel)
    (case sa_InvalidMoment => k_is)
    (case ga_InvalidMoment => k_is)
    (case gg_InvalidMoment => k_is)
    (case ex_InvalidMoment => k_is)
    (case ty_InvalidMoment => k_is)
    (case kC_InvalidMoment => k_is)
    (case hd_InvalidMoment => k_is)
    (case ca_InvalidMoment => k_is)
    (case cm_InvalidMoment => k_is)
    (case no_InvalidMoment_value => k_is)
    (case ci_InvalidMoment => k_is)
    (case ti_InvalidMoment => k_is)
    (case li_InvalidMoment => k_is)
    (case cc_InvalidMoment => k_is)
    (case ki_InvalidMoment => k_is)
    (case ss_InvalidMoment => k_is)
    (case a_InvalidSpan => k_is)
    (case xl_InvalidSpan => k_is)
    (case rv_InvalidSpan => decide +kernel)
    (case sa_InvalidSpan => k_is)
    (case ga_InvalidSpan => k_is)
    (case gg_InvalidSpan => k_is)
    (case ex_InvalidSpan => k_is)
    (case ty_InvalidSpan => k_is)
    (case kC_InvalidSpan => k_is)
    (case hd_InvalidSpan => k_is)
    (case ca_InvalidSpan => k_is)
    (case cm_InvalidSpan => k_is)
    (case no_InvalidSpan_value => k_is)
    (case ci_InvalidSpan => k_is)
    (case ti_InvalidSpan => k_is)
    (case li_InvalidSpan => k_is)
    (case cc_InvalidSpan => k_is)
    (case ki_InvalidSpan => k_is)
    (case ss_InvalidSpan => k_is)
    (case a_InvalidTable => k_is)
    (case xl_InvalidTable => k_is)
    (case rv_InvalidTable => decide +kernel)
    (case sa_InvalidTable => k_is)
    (case ga_InvalidTable => k_is)
    (case gg_InvalidTable => k_is)
    (case ex_InvalidTable => k_is)
    (case ty_InvalidTable => k_is)
    (case kC_InvalidTable => k_is)
    (case hd_InvalidTable => k_is)
    (case ca_InvalidTable => k_is)
    (case cm_InvalidTable => k_is)
    (case no_InvalidTable_value => k_is)
    (case ci_InvalidTable => k_is)
    (case ti_InvalidTable => k_is)
    (case li_InvalidTable => k_is)
    (case cc_InvalidTable => k_is)
    (case ki_InvalidTable => k_is)
    (case ss_InvalidTable => k_is)
    (case xcn => k_is)
    (case xct => k_is)
    (case kt_InvalidSpan_BellError => k_is)
    (case kt_InvalidSpan_InvalidMoment => k_is)
    (case kt_InvalidSpan_InvalidTable => k_is)
    (case kt_InvalidSpan_ValueError => k_is)
    (case a_is_whole => k_is)
    (case l_is_whole => k_is)
    (case c_is_whole => k_is)
    (case k_is_whole => k_is)
    (case a_is_tuple_of => k_is)
    (case l_is_tuple_of => k_is)
    (case c_is_tuple_of => k_is)
    (case k_is_tuple_of => k_is)
    (case a_in_lowest_terms => k_is)
    (case l_in_lowest_terms => k_is)
    (case c_in_lowest_terms => k_is)
    (case k_in_lowest_terms => k_is)
    (case a_added => k_is)
    (case l_added => k_is)
    (case c_added => k_is)
    (case k_added => k_is)
    (case a_compared => k_is)
    (case l_compared => k_is)
    (case c_compared => k_is)
    (case k_compared => k_is)
    (case a_halfway => k_is)
    (case l_halfway => k_is)
    (case c_halfway => k_is)
    (case k_halfway => k_is)
    (case a_is_edge => k_is)
    (case l_is_edge => k_is)
    (case c_is_edge => k_is)
    (case k_is_edge => k_is)
    (case a_is_span => k_is)
    (case l_is_span => k_is)
    (case c_is_span => k_is)
    (case k_is_span => k_is)
    (case a_has_moment => k_is)
    (case l_has_moment => k_is)
    (case c_has_moment => k_is)
    (case k_has_moment => k_is)
    (case a_span => k_is)
    (case l_span => k_is)
    (case c_span => k_is)
    (case k_span => k_is)
    (case lt_span => k_is)
    (case lo_span => rfl)
    (case lv_span => exact .cons rfl (.nil))
    (case kq_span_low_reach => k_is)
    (case kr_span_low_reach => exact (by first | exact ⟨_, rfl⟩ | rfl))
    (case kq_span_high_reach => k_is)
    (case kr_span_high_reach => exact (by first | exact ⟨_, rfl⟩ | rfl))
    (case a_in_span => k_is)
    (case l_in_span => k_is)
    (case c_in_span => k_is)
    (case k_in_span => k_is)
    (case a_low_order => k_is)
    (case l_low_order => k_is)
    (case c_low_order => k_is)
    (case k_low_order => k_is)
    (case a_span_meet => k_is)
    (case l_span_meet => k_is)
    (case c_span_meet => k_is)
    (case k_span_meet => k_is)
    (case a_span_cover => k_is)
    (case l_span_cover => k_is)
    (case c_span_cover => k_is)
    (case k_span_cover => k_is)
    (case a_span_moment => k_is)
    (case l_span_moment => k_is)
    (case c_span_moment => k_is)
    (case k_span_moment => k_is)
    (case a__law_box => k_is)
    (case l__law_box => k_is)
    (case c__law_box => k_is)
    (case k__law_box => k_is)
    (case a__law_draw => k_is)
    (case l__law_draw => k_is)
    (case c__law_draw => k_is)
    (case k__law_draw => k_is)
    (case a__law_pick => k_is)
    (case l__law_pick => k_is)
    (case c__law_pick => k_is)
    (case k__law_pick => k_is)
    (case a__law_same => k_is)
    (case l__law_same => k_is)
    (case c__law_same => k_is)
    (case k__law_same => k_is)
    (case a__law_gcd => k_is)
    (case l__law_gcd => k_is)
    (case c__law_gcd => k_is)
    (case k__law_gcd => k_is)
    (case a__law_lowest => k_is)
    (case l__law_lowest => k_is)
    (case c__law_lowest => k_is)
    (case k__law_lowest => k_is)
    (case a__law_limit => k_is)
    (case l__law_limit => k_is)
    (case c__law_limit => k_is)
    (case k__law_limit => k_is)
    (case a__law_span => k_is)
    (case l__law_span => k_is)
    (case c__law_span => k_is)
    (case k__law_span => k_is)
    (case a__law_nearby => k_is)
    (case l__law_nearby => k_is)
    (case c__law_nearby => k_is)
    (case k__law_nearby => k_is)
    (case a__law_holds => k_is)
    (case l__law_holds => k_is)
    (case c__law_holds => k_is)
    (case k__law_holds => k_is)
    (case a__law_built => k_is)
    (case l__law_built => k_is)
    (case c__law_built => k_is)
    (case k__law_built => k_is)
    (case a__law_wrong => k_is)
    (case l__law_wrong => k_is)
    (case c__law_wrong => k_is)
    (case k__law_wrong => k_is)
    (case a__law_met => k_is)
    (case l__law_met => k_is)
    (case c__law_met => k_is)
    (case k__law_met => k_is)
    (case a__law_covered => k_is)
    (case l__law_covered => k_is)
    (case c__law_covered => k_is)
    (case k__law_covered => k_is)
    (case a__law_hull => k_is)
    (case l__law_hull => k_is)
    (case c__law_hull => k_is)
    (case k__law_hull => k_is)
    (case a__law_top => k_is)
    (case l__law_top => k_is)
    (case c__law_top => k_is)
    (case k__law_top => k_is)
    (case a__law_joins_hold => k_is)
    (case l__law_joins_hold => k_is)
    (case c__law_joins_hold => k_is)
    (case k__law_joins_hold => k_is)
    (case a__law_moment_of => k_is)
    (case l__law_moment_of => k_is)
    (case c__law_moment_of => k_is)
    (case k__law_moment_of => k_is)
    (case a_law => k_is)
    (case l_law => k_is)
    (case c_law => k_is)
    (case k_law => k_is)
#print axioms PySem.Challenge.cw_bellrest_k03_spans_met_and_covered_holds
end
