import PyProof.Rows.All
import Wide.All
import OpenK.AllK
import Wide.FinOn
import HandS.ForExc
import HandS.Comp
import HandS.Iter
import HandS.Text
import HandS.Wide
import HandS.IsInst
import HandS.Style
import HandS.Gcd
import HandS.Deep
import HandS.CallSlots
import HandS.TupAny
import HandS.StrMore
import HandS.Walk
import HandS.Zip
import HandS.Rev
import HandS.ExcInit
import HandS.ExcCtx
import HandS.HotCalls
import HandS.ExcIs
import HandS.ExcField
import KE.KExcIs
import HandS.Star
import HandS.Defaults
import HandS.EndBits
import HandS.RevTup
import HandS.FStr
import HandS.RaiseMore
import KE.GoesMore
import KE.GoesEnum
import KE.GoesEnumKw
import HandS.SortKw
import HandS.Strs
import HandS.SetFor
import HandS.More
import PySem.Challenge.RW_bellrest_k21_restarts_and_tests
section
set_option Elab.async false
set_option linter.all false
set_option maxRecDepth 100000
/-! Z: plain data D, a store of cells, and denotations of expressions and statements over them; each is held against the layer's readings once. -/
namespace Z
open PySem PySem.Spec PyProof.Rows L2

/-- plain data; ref n: the n-th cell of the store -/
inductive D where
  | non | bl (b : Bool) | int (i : Int) | str (x : Str) | tup (xs : List D) | lst (xs : List D) | frz (xs : List D) | ref (n : Nat)
  | err (a dd : Addr) (ks : List Str) (xs : List D)

inductive Cell where
  | lst (xs : List D)

abbrev Sto := List Cell
abbrev Env := List (Option D)

inductive R (α : Type) where
  | ok (a : α) (S : Sto)
  | ex (c : Str) (fs : List (Str × D)) (S : Sto)
  | bad

def R.bind {α β : Type} (r : R α) (k : α → Sto → R β) : R β := match r with
  | .ok a S => k a S
  | .ex c fs S => .ex c fs S
  | .bad => .bad
theorem R.bind_ok {α β : Type} {a : α} {S : Sto} {k : α → Sto → R β} : (R.ok a S).bind k = k a S := rfl
theorem R.bind_ex {α β : Type} {c : Str} {fs : List (Str × D)} {S : Sto} {k : α → Sto → R β} : (R.ex c fs S : R α).bind k = .ex c fs S := rfl
theorem R.bind_bad {α β : Type} {k : α → Sto → R β} : (R.bad : R α).bind k = .bad := rfl

/-! ### sizes that are asked (never reckoned out) -/
def Fit (n : Nat) : Prop := n ≤ sizeLine
def FitS (n : Nat) : Prop := n < sizeLine
noncomputable instance (n : Nat) : Decidable (Fit n) := Classical.propDecidable _
noncomputable instance (n : Nat) : Decidable (FitS n) := Classical.propDecidable _

/-! ### data and the heap -/
/-- the cells' addresses; addresses that no data may lean on -/
structure Em where
  c : List Addr
  b : List Addr
def Em.has (ι : Em) (a : Addr) : Prop := a ∈ ι.c ∨ a ∈ ι.b
/-- a tuple, a list of the written part -/
def StT (K : PySem.W.Frag) (a : Addr) (xs : List V) : Prop :=
  ∃ (o : Obj) (its : Array Value) (n : Nat), K.lookup a = some o ∧ o.cls = .type "tuple" ∧ o.data = .seq its n ∧ its.size ≤ sizeLine ∧ Vals xs its.toList
def StL (K : PySem.W.Frag) (a : Addr) (xs : List V) : Prop :=
  ∃ (o : Obj) (its : Array Value) (n : Nat), K.lookup a = some o ∧ o.cls = .type "list" ∧ o.dict = none ∧ o.data = .seq its n ∧ its.size ≤ sizeLine ∧ Vals xs its.toList

mutual
inductive Rp (K : PySem.W.Frag) (H : Hp) (ι : Em) : V → D → Prop
  | non : Rp K H ι .non .non
  | bl (b : Bool) : Rp K H ι (.bl b) (.bl b)
  | int (i : Int) : Rp K H ι (.int i) (.int i)
  | str (x : Str) : Rp K H ι (.str x) (.str x)
  | tup {a : Addr} {vs : List V} {ds : List D} : ¬ ι.has a → H a = some (.tup vs) → Rps K H ι vs ds → Rp K H ι (.ref a) (.tup ds)
  | tupK {a : Addr} {vs : List V} {ds : List D} : StT K a vs → Rps K H ι vs ds → Rp K H ι (.ref a) (.tup ds)
  | lst {a : Addr} {vs : List V} {ds : List D} : ¬ ι.has a → H a = some (.lst vs) → Rps K H ι vs ds → Rp K H ι (.ref a) (.lst ds)
  | frz {a : Addr} {o : Obj} {vs : List V} {ds : List D} : ¬ ι.has a → H a = some (.frz o (.lst vs)) → Rps K H ι vs ds → Rp K H ι (.ref a) (.frz ds)
  | frzK {a : Addr} {vs : List V} {ds : List D} : StL K a vs → Rps K H ι vs ds → Rp K H ι (.ref a) (.frz ds)
  | ref {a : Addr} {n : Nat} : ι.c[n]? = some a → Rp K H ι (.ref a) (.ref n)
  | err {a dd : Addr} {ks : List Str} {vs : List V} {ds : List D} : ¬ ι.has dd → H dd = some (.xd (ks.zip vs)) → Rps K H ι vs ds → Rp K H ι (.ref a) (.err a dd ks ds)
inductive Rps (K : PySem.W.Frag) (H : Hp) (ι : Em) : List V → List D → Prop
  | nil : Rps K H ι [] []
  | cons {v : V} {vs : List V} {d : D} {ds : List D} : Rp K H ι v d → Rps K H ι vs ds → Rps K H ι (v :: vs) (d :: ds)
end

/-- the heap goes on: new cells, all else as it stood -/
structure Ext (ι : Em) (H : Hp) (ι' : Em) (H' : Hp) : Prop where
  ban : ∃ nb, ι'.b = nb ++ ι.b ∧ ∀ p ∈ nb, H p = none
  pre : ∃ new, ι'.c = ι.c ++ new ∧ ∀ p ∈ new, H p = none
  keep : ∀ a o, a ∉ ι.c → H a = some o → H' a = some o

theorem Ext.refl {ι : Em} {H : Hp} : Ext ι H ι H := ⟨⟨[], rfl, by simp⟩, ⟨[], by simp, by simp⟩, fun _ _ _ h => h⟩
theorem Ext.outC {ι ι' : Em} {H H' : Hp} {a : Addr} {o : HO} (e : Ext ι H ι' H') (h : a ∉ ι.c) (ha : H a = some o) : a ∉ ι'.c := by
  obtain ⟨new, e1, hn⟩ := e.pre
  rw [e1]
  intro hm
  rcases List.mem_append.mp hm with hm | hm
  · exact h hm
  · rw [hn a hm] at ha; cases ha
theorem Ext.out {ι ι' : Em} {H H' : Hp} {a : Addr} {o : HO} (e : Ext ι H ι' H') (h : ¬ ι.has a) (ha : H a = some o) : ¬ ι'.has a := by
  rintro (hm | hm)
  · exact e.outC (fun z => h (.inl z)) ha hm
  · obtain ⟨nb, e2, hn⟩ := e.ban
    rw [e2] at hm
    rcases List.mem_append.mp hm with hm | hm
    · rw [hn a hm] at ha; cases ha
    · exact h (.inr hm)
theorem Ext.back {ι ι' : Em} {H H' : Hp} {a : Addr} (e : Ext ι H ι' H') (hd : ∀ b ∈ ι.c, H' b ≠ none) (h : H' a = none) : H a = none := by
  cases q : H a with
  | none => rfl
  | some o =>
    by_cases hm : a ∈ ι.c
    · exact absurd h (hd a hm)
    · rw [e.keep a o hm q] at h; cases h
theorem Ext.get {ι ι' : Em} {H H' : Hp} {a : Addr} {n : Nat} (e : Ext ι H ι' H') (h : ι.c[n]? = some a) : ι'.c[n]? = some a := by
  obtain ⟨new, e1, _⟩ := e.pre
  have hl : n < ι.c.length := (List.getElem?_eq_some_iff.mp h).1
  rw [e1, List.getElem?_append_left hl]; exact h

mutual
theorem Rp.ext {K : PySem.W.Frag} {ι ι' : Em} {H H' : Hp} (e : Ext ι H ι' H') : ∀ {v : V} {d : D}, Rp K H ι v d → Rp K H' ι' v d
  | _, _, .non => .non
  | _, _, .bl b => .bl b
  | _, _, .int i => .int i
  | _, _, .str x => .str x
  | _, _, .tup hn hr hs => .tup (e.out hn hr) (e.keep _ _ (fun z => hn (.inl z)) hr) (Rps.ext e hs)
  | _, _, .tupK h hs => .tupK h (Rps.ext e hs)
  | _, _, .lst hn hr hs => .lst (e.out hn hr) (e.keep _ _ (fun z => hn (.inl z)) hr) (Rps.ext e hs)
  | _, _, .frz hn hr hs => .frz (e.out hn hr) (e.keep _ _ (fun z => hn (.inl z)) hr) (Rps.ext e hs)
  | _, _, .frzK h hs => .frzK h (Rps.ext e hs)
  | _, _, .ref h => .ref (e.get h)
  | _, _, .err hn hr hs => .err (e.out hn hr) (e.keep _ _ (fun z => hn (.inl z)) hr) (Rps.ext e hs)
theorem Rps.ext {K : PySem.W.Frag} {ι ι' : Em} {H H' : Hp} (e : Ext ι H ι' H') : ∀ {vs : List V} {ds : List D}, Rps K H ι vs ds → Rps K H' ι' vs ds
  | _, _, .nil => .nil
  | _, _, .cons h hs => .cons (Rp.ext e h) (Rps.ext e hs)
end
section
variable {K : PySem.W.Frag} {ι ι' : Em} {H H' : Hp}
theorem Rps.length {vs : List V} {ds : List D} (h : Rps K H ι vs ds) : vs.length = ds.length := by
  induction vs generalizing ds with
  | nil => cases h; rfl
  | cons v vs ih => cases h with | cons h hs => simp [ih hs]
theorem Rps.get {vs : List V} {ds : List D} {i : Nat} {d : D} (h : Rps K H ι vs ds) (e : ds[i]? = some d) : ∃ v, vs[i]? = some v ∧ Rp K H ι v d := by
  induction vs generalizing ds i with
  | nil => cases h; simp at e
  | cons v vs ih =>
    cases h with
    | cons h hs =>
      cases i with
      | zero => simp at e; subst e; exact ⟨v, by simp, h⟩
      | succ i => simpa using ih hs (by simpa using e)
theorem Rps.getV {vs : List V} {ds : List D} {i : Nat} {v : V} (h : Rps K H ι vs ds) (e : vs[i]? = some v) : ∃ d, ds[i]? = some d ∧ Rp K H ι v d := by
  have hl := h.length
  have hi : i < ds.length := by rw [← hl]; exact (List.getElem?_eq_some_iff.mp e).1
  obtain ⟨w, e1, r⟩ := h.get (List.getElem?_eq_getElem hi)
  rw [e] at e1; cases e1
  exact ⟨_, List.getElem?_eq_getElem hi, r⟩
theorem Rps.append {vs ws : List V} {ds es : List D} (h : Rps K H ι vs ds) (h2 : Rps K H ι ws es) : Rps K H ι (vs ++ ws) (ds ++ es) := by
  induction vs generalizing ds with
  | nil => cases h; simpa using h2
  | cons v vs ih => cases h with | cons h hs => exact .cons h (ih hs)
theorem Rps.take {vs : List V} {ds : List D} (n : Nat) (h : Rps K H ι vs ds) : Rps K H ι (vs.take n) (ds.take n) := by
  induction n generalizing vs ds with
  | zero => simpa using Rps.nil
  | succ n ih => cases h with
    | nil => simpa using Rps.nil
    | cons h hs => simpa using Rps.cons h (ih hs)
theorem Rps.drop {vs : List V} {ds : List D} (n : Nat) (h : Rps K H ι vs ds) : Rps K H ι (vs.drop n) (ds.drop n) := by
  induction n generalizing vs ds with
  | zero => simpa using h
  | succ n ih => cases h with
    | nil => simpa using Rps.nil
    | cons h hs => simpa using ih hs
theorem Rps.reverse {vs : List V} {ds : List D} (h : Rps K H ι vs ds) : Rps K H ι vs.reverse ds.reverse := by
  induction vs generalizing ds with
  | nil => cases h; simpa using Rps.nil
  | cons v vs ih => cases h with
    | cons h hs => simpa using (ih hs).append (.cons h .nil)
theorem Rps.set {vs : List V} {ds : List D} {v : V} {d : D} (n : Nat) (h : Rps K H ι vs ds) (r : Rp K H ι v d) : Rps K H ι (vs.set n v) (ds.set n d) := by
  induction vs generalizing ds n with
  | nil => cases h; simpa using Rps.nil
  | cons w vs ih => cases h with
    | cons h hs => cases n with
      | zero => simpa using Rps.cons r hs
      | succ n => simpa using Rps.cons h (ih n hs)
/-- a list of data that is read -/
inductive SeqOf (K : PySem.W.Frag) (H : Hp) (ι : Em) (a : Addr) (vs : List V) : Prop
  | l : SqL K H a vs → SeqOf K H ι a vs
  | t : SqT K H a vs → SeqOf K H ι a vs
theorem Rp.tup_inv {v : V} {ds : List D} (h : Rp K H ι v (.tup ds)) : ∃ a vs, v = .ref a ∧ SqT K H a vs ∧ Rps K H ι vs ds := by
  cases h with
  | tup h1 h2 h3 => exact ⟨_, _, rfl, .inl (.inl h2), h3⟩
  | tupK h1 h3 => exact ⟨_, _, rfl, .inr h1, h3⟩
theorem Rp.lst_inv {v : V} {ds : List D} (h : Rp K H ι v (.lst ds)) : ∃ a vs, v = .ref a ∧ ¬ ι.has a ∧ H a = some (.lst vs) ∧ Rps K H ι vs ds := by
  cases h with
  | lst h1 h2 h3 => exact ⟨_, _, rfl, h1, h2, h3⟩
theorem Rp.frz_inv {v : V} {ds : List D} (h : Rp K H ι v (.frz ds)) : ∃ a vs, v = .ref a ∧ SqL K H a vs ∧ Rps K H ι vs ds := by
  cases h with
  | frz h1 h2 h3 => exact ⟨_, _, rfl, .inl (.inr ⟨_, h2⟩), h3⟩
  | frzK h1 h3 => exact ⟨_, _, rfl, .inr h1, h3⟩
theorem Rp.int_inv {v : V} {i : Int} (h : Rp K H ι v (.int i)) : v = .int i := by cases h; rfl
theorem Rp.bl_inv {v : V} {i : Bool} (h : Rp K H ι v (.bl i)) : v = .bl i := by cases h; rfl
theorem Rp.str_inv {v : V} {i : Str} (h : Rp K H ι v (.str i)) : v = .str i := by cases h; rfl
theorem Rp.non_inv {v : V} (h : Rp K H ι v .non) : v = .non := by cases h; rfl
theorem Rp.ref_inv {v : V} {n : Nat} (h : Rp K H ι v (.ref n)) : ∃ a, v = .ref a ∧ ι.c[n]? = some a := by cases h with | ref h => exact ⟨_, rfl, h⟩
end

/-! ### the store -/
def CellOk (K : PySem.W.Frag) (H : Hp) (ι : Em) (a : Addr) : Cell → Prop
  | .lst ds => ∃ vs, H a = some (.lst vs) ∧ Rps K H ι vs ds
structure Sr (K : PySem.W.Frag) (H : Hp) (ι : Em) (S : Sto) : Prop where
  len : ι.c.length = S.length
  nd : ι.c.Nodup
  ban : ∀ b ∈ ι.b, H b ≠ none
  cell : ∀ (n : Nat) (a : Addr) (c : Cell), ι.c[n]? = some a → S[n]? = some c → CellOk K H ι a c
section
variable {K : PySem.W.Frag} {ι ι' ι2 : Em} {H H' H2 : Hp} {S S' : Sto}
theorem CellOk.some {a : Addr} {c : Cell} (h : CellOk K H ι a c) : H a ≠ none := by
  cases c with
  | lst ds => obtain ⟨vs, e, _⟩ := h; rw [e]; simp
theorem Sr.dom (h : Sr K H ι S) : ∀ b ∈ ι.c, H b ≠ none := fun b hb => by
  obtain ⟨n, hn, e⟩ := List.getElem_of_mem hb
  have h2 : n < S.length := by rw [← h.len]; exact hn
  have e1 : ι.c[n]? = some b := by rw [List.getElem?_eq_getElem hn, e]
  exact (h.cell n b _ e1 (List.getElem?_eq_getElem h2)).some
theorem Sr.outC (h : Sr K H ι S) {p : Addr} (hp : H p = none) : p ∉ ι.c := fun hm => h.dom p hm hp
theorem Sr.out (h : Sr K H ι S) {p : Addr} (hp : H p = none) : ¬ ι.has p := by
  rintro (hm | hm)
  · exact h.dom p hm hp
  · exact h.ban p hm hp
theorem Ext.trans (a : Ext ι H ι' H') (b : Ext ι' H' ι2 H2) (hd : ∀ b ∈ ι.c, H' b ≠ none) : Ext ι H ι2 H2 := by
  obtain ⟨n1, e1, f1⟩ := a.pre
  obtain ⟨n2, e2, f2⟩ := b.pre
  obtain ⟨m1, g1, k1⟩ := a.ban
  obtain ⟨m2, g2, k2⟩ := b.ban
  refine ⟨⟨m2 ++ m1, by rw [g2, g1, List.append_assoc], fun p hp => ?_⟩, ⟨n1 ++ n2, by rw [e2, e1, List.append_assoc], fun p hp => ?_⟩, fun c o hc ho => b.keep c o (a.outC hc ho) (a.keep c o hc ho)⟩
  · rcases List.mem_append.mp hp with hp | hp
    · exact a.back hd (k2 p hp)
    · exact k1 p hp
  · rcases List.mem_append.mp hp with hp | hp
    · exact f1 p hp
    · exact a.back hd (f2 p hp)
theorem Ext.dom (a : Ext ι H ι' H') (s : Sr K H' ι' S') : ∀ b ∈ ι.c, H' b ≠ none := fun b hb => by
  obtain ⟨n1, e1, _⟩ := a.pre
  exact s.dom b (by rw [e1]; exact List.mem_append_left _ hb)
theorem Ext.tr (a : Ext ι H ι' H') (s : Sr K H' ι' S') (b : Ext ι' H' ι2 H2) : Ext ι H ι2 H2 := a.trans b (a.dom s)
/-- a new object that is no cell -/
theorem Ext.new {p : Addr} {o : HO} (hp : H p = none) : Ext ι H ι (upd H p o) := ⟨⟨[], rfl, by simp⟩, ⟨[], by simp, by simp⟩, fun a u _ h => by rw [upd_ne (ne_of_none h hp)]; exact h⟩
theorem CellOk.ext {a : Addr} {c : Cell} (e : Ext ι H ι' H') (h : CellOk K H ι a c) (k : H' a = H a) : CellOk K H' ι' a c := by
  cases c with
  | lst ds => obtain ⟨vs, e1, r⟩ := h; exact ⟨vs, by rw [k]; exact e1, r.ext e⟩
theorem upd_some {p b : Addr} {o : HO} (h : H b ≠ none) : upd H p o b ≠ none := by
  by_cases e : b = p
  · subst e; rw [upd_same]; simp
  · rw [upd_ne e]; exact h
theorem Sr.new {p : Addr} {o : HO} (h : Sr K H ι S) (hp : H p = none) : Sr K (upd H p o) ι S := ⟨h.len, h.nd, fun b hb => upd_some (h.ban b hb), fun n a c e1 e2 => (h.cell n a c e1 e2).ext (Ext.new hp) (upd_ne (by
  intro q; subst q; exact (h.cell n a c e1 e2).some hp))⟩
/-- a new cell -/
def Em.push (ι : Em) (p : Addr) : Em := ⟨ι.c ++ [p], ι.b⟩
theorem Ext.newC {p : Addr} {o : HO} (hp : H p = none) : Ext ι H (ι.push p) (upd H p o) := ⟨⟨[], rfl, by simp⟩, ⟨[p], rfl, by simpa using hp⟩, fun a u _ h => by rw [upd_ne (ne_of_none h hp)]; exact h⟩
theorem Sr.newC {p : Addr} {vs : List V} {ds : List D} (h : Sr K H ι S) (hp : H p = none) (r : Rps K H ι vs ds) : Sr K (upd H p (.lst vs)) (ι.push p) (S ++ [.lst ds]) := by
  refine ⟨by simp [Em.push, h.len], ?_, fun b hb => upd_some (h.ban b hb), fun n a c e1 e2 => ?_⟩
  · show (ι.c ++ [p]).Nodup
    rw [List.nodup_append]
    exact ⟨h.nd, by simp, fun a ha b hb => by simp at hb; subst hb; exact fun q => h.outC hp (q ▸ ha)⟩
  · replace e1 : (ι.c ++ [p])[n]? = some a := e1
    by_cases hn : n < ι.c.length
    · rw [List.getElem?_append_left hn] at e1
      rw [List.getElem?_append_left (by rw [← h.len]; exact hn)] at e2
      exact (h.cell n a c e1 e2).ext (Ext.newC hp) (upd_ne (by intro q; subst q; exact (h.cell n a c e1 e2).some hp))
    · have hn2 : n = ι.c.length := by
        have := (List.getElem?_eq_some_iff.mp e1).1
        simp at this; omega
      subst hn2
      rw [List.getElem?_append_right (Nat.le_refl _)] at e1
      rw [h.len, List.getElem?_append_right (Nat.le_refl _)] at e2
      simp at e1 e2
      subst e1; subst e2
      exact ⟨vs, upd_same, r.ext (Ext.newC hp)⟩
/-- a list cell's new content -/
theorem Ext.put {p : Addr} {n : Nat} {o : HO} (hp : ι.c[n]? = some p) : Ext ι H ι (upd H p o) := ⟨⟨[], rfl, by simp⟩, ⟨[], by simp, by simp⟩, fun a u ha h => by
  rw [upd_ne (fun q => ha (by rw [q]; exact List.mem_of_getElem? hp))]; exact h⟩
theorem Sr.put {p : Addr} {n : Nat} {vs : List V} {ds : List D} (h : Sr K H ι S) (hp : ι.c[n]? = some p) (r : Rps K H ι vs ds) : Sr K (upd H p (.lst vs)) ι (S.set n (.lst ds)) := by
  refine ⟨by simp [h.len], h.nd, fun b hb => upd_some (h.ban b hb), fun m a c e1 e2 => ?_⟩
  by_cases hm : m = n
  · subst hm
    rw [hp] at e1; cases e1
    have hl : m < S.length := by rw [← h.len]; exact (List.getElem?_eq_some_iff.mp hp).1
    rw [List.getElem?_set_self hl] at e2
    cases e2
    exact ⟨vs, upd_same, r.ext (Ext.put hp)⟩
  · rw [List.getElem?_set_ne (Ne.symm hm)] at e2
    refine (h.cell m a c e1 e2).ext (Ext.put hp) (upd_ne ?_)
    intro q
    subst q
    exact hm (nd_ix h.nd e1 hp)
/-! ### an address that no data leans on -/
def Em.ban (ι : Em) (p : Addr) : Em := ⟨ι.c, p :: ι.b⟩
theorem Ext.banned {p : Addr} {o : HO} (hp : H p = none) : Ext ι H (ι.ban p) (upd H p o) := ⟨⟨[p], rfl, by simpa using hp⟩, ⟨[], by simp [Em.ban], by simp⟩, fun a u _ h => by rw [upd_ne (ne_of_none h hp)]; exact h⟩
theorem Sr.banned {p : Addr} {o : HO} (h : Sr K H ι S) (hp : H p = none) : Sr K (upd H p o) (ι.ban p) S := by
  refine ⟨h.len, h.nd, fun b hb => ?_, fun n a c e1 e2 => (h.cell n a c e1 e2).ext (Ext.banned hp) (upd_ne fun q => (h.cell n a c e1 e2).some (q ▸ hp))⟩
  rcases List.mem_cons.mp hb with rfl | hb
  · rw [upd_same]; simp
  · exact upd_some (h.ban b hb)
mutual
/-- a banned object changes -/
theorem Rp.ban2 {p : Addr} {o : HO} (hb : p ∈ ι.b) : ∀ {v : V} {d : D}, Rp K H ι v d → Rp K (upd H p o) ι v d
  | _, _, .non => .non
  | _, _, .bl b => .bl b
  | _, _, .int i => .int i
  | _, _, .str x => .str x
  | _, _, .tup hn hr hs => .tup hn ((upd_ne fun (q : _ = p) => hn (.inr (by rw [q]; exact hb))).trans hr) (Rps.ban2 hb hs)
  | _, _, .tupK h hs => .tupK h (Rps.ban2 hb hs)
  | _, _, .lst hn hr hs => .lst hn ((upd_ne fun (q : _ = p) => hn (.inr (by rw [q]; exact hb))).trans hr) (Rps.ban2 hb hs)
  | _, _, .frz hn hr hs => .frz hn ((upd_ne fun (q : _ = p) => hn (.inr (by rw [q]; exact hb))).trans hr) (Rps.ban2 hb hs)
  | _, _, .frzK h hs => .frzK h (Rps.ban2 hb hs)
  | _, _, .ref h => .ref h
  | _, _, .err hn hr hs => .err hn ((upd_ne fun (q : _ = p) => hn (.inr (by rw [q]; exact hb))).trans hr) (Rps.ban2 hb hs)
theorem Rps.ban2 {p : Addr} {o : HO} (hb : p ∈ ι.b) : ∀ {vs : List V} {ds : List D}, Rps K H ι vs ds → Rps K (upd H p o) ι vs ds
  | _, _, .nil => .nil
  | _, _, .cons h hs => .cons (Rp.ban2 hb h) (Rps.ban2 hb hs)
end
theorem Sr.ban2 {p : Addr} {o : HO} (h : Sr K H ι S) (hb : p ∈ ι.b) (hp : p ∉ ι.c) : Sr K (upd H p o) ι S := by
  refine ⟨h.len, h.nd, fun b hb => upd_some (h.ban b hb), fun n a c e1 e2 => ?_⟩
  have q := h.cell n a c e1 e2
  have ne : a ≠ p := fun z => hp (z ▸ List.mem_of_getElem? e1)
  cases c with
  | lst ds => obtain ⟨vs, e3, r⟩ := q; exact ⟨vs, (upd_ne ne).trans e3, r.ban2 hb⟩
mutual
/-- fewer addresses are held -/
theorem Rp.less (hh : ∀ a, ι'.has a → ι.has a) (hc : ∀ (n : Nat) (a : Addr), ι.c[n]? = some a → ι'.c[n]? = some a) : ∀ {v : V} {d : D}, Rp K H ι v d → Rp K H ι' v d
  | _, _, .non => .non
  | _, _, .bl b => .bl b
  | _, _, .int i => .int i
  | _, _, .str x => .str x
  | _, _, .tup hn hr hs => .tup (fun z => hn (hh _ z)) hr (Rps.less hh hc hs)
  | _, _, .tupK h hs => .tupK h (Rps.less hh hc hs)
  | _, _, .lst hn hr hs => .lst (fun z => hn (hh _ z)) hr (Rps.less hh hc hs)
  | _, _, .frz hn hr hs => .frz (fun z => hn (hh _ z)) hr (Rps.less hh hc hs)
  | _, _, .frzK h hs => .frzK h (Rps.less hh hc hs)
  | _, _, .ref h => .ref (hc _ _ h)
  | _, _, .err hn hr hs => .err (fun z => hn (hh _ z)) hr (Rps.less hh hc hs)
theorem Rps.less (hh : ∀ a, ι'.has a → ι.has a) (hc : ∀ (n : Nat) (a : Addr), ι.c[n]? = some a → ι'.c[n]? = some a) : ∀ {vs : List V} {ds : List D}, Rps K H ι vs ds → Rps K H ι' vs ds
  | _, _, .nil => .nil
  | _, _, .cons h hs => .cons (Rp.less hh hc h) (Rps.less hh hc hs)
end
/-- a banned list is let go, as data | as a cell -/
def Em.free (ι : Em) (p : Addr) : Em := ⟨ι.c, ι.b.filter fun b => decide (b ≠ p)⟩
theorem Em.free_has {p a : Addr} (h : (ι.free p).has a) : ι.has a := h.imp id fun z => (List.mem_filter.mp z).1
theorem Sr.free {p : Addr} (h : Sr K H ι S) : Sr K H (ι.free p) S := by
  refine ⟨h.len, h.nd, fun b hb => h.ban b (List.mem_filter.mp hb).1, fun n a c e1 e2 => ?_⟩
  have q := h.cell n a c e1 e2
  cases c with
  | lst ds => obtain ⟨vs, e3, r⟩ := q; exact ⟨vs, e3, r.less (fun _ => Em.free_has) fun _ _ z => z⟩
theorem Ext.free {p : Addr} (e : Ext ι H ι' H') : Ext ι H ⟨ι'.c, ι'.b.filter fun b => decide (b ≠ p)⟩ H' ∨ p ∈ ι.b := by
  by_cases hp : p ∈ ι.b
  · exact .inr hp
  · obtain ⟨nb, e1, k⟩ := e.ban
    refine .inl ⟨⟨nb.filter fun b => decide (b ≠ p), ?_, fun q hq => k q (List.mem_filter.mp hq).1⟩, e.pre, e.keep⟩
    show ι'.b.filter _ = _
    rw [e1, List.filter_append]
    congr 1
    rw [List.filter_eq_self]
    intro b hb
    simp only [ne_eq, decide_eq_true_eq]
    exact fun z => hp (z ▸ hb)
theorem Em.push_has {p a : Addr} (hb : p ∈ ι.b) (h : ((ι.free p).push p).has a) : ι.has a := by
  rcases h with h | h
  · rcases List.mem_append.mp h with h | h
    · exact .inl h
    · cases List.mem_singleton.mp h; exact .inr hb
  · exact .inr (List.mem_filter.mp h).1
theorem Em.push_get {p : Addr} (n : Nat) (a : Addr) (h : ι.c[n]? = some a) : ((ι.free p).push p).c[n]? = some a := by
  show (ι.c ++ [p])[n]? = some a
  rw [List.getElem?_append_left (List.getElem?_eq_some_iff.mp h).1]; exact h
theorem Sr.adopt {p : Addr} {us : List V} {ds : List D} (h : Sr K H ι S) (hb : p ∈ ι.b) (hp : p ∉ ι.c) (e : H p = some (.lst us)) (r : Rps K H ι us ds) : Sr K H ((ι.free p).push p) (S ++ [.lst ds]) := by
  refine ⟨by show (ι.c ++ [p]).length = _; simp [h.len], ?_, fun b hb => h.ban b (List.mem_filter.mp hb).1, fun n a c e1 e2 => ?_⟩
  · show (ι.c ++ [p]).Nodup
    rw [List.nodup_append]
    exact ⟨h.nd, by simp, fun a ha b hb => by simp at hb; subst hb; exact fun q => hp (q ▸ ha)⟩
  · replace e1 : (ι.c ++ [p])[n]? = some a := e1
    by_cases hn : n < ι.c.length
    · rw [List.getElem?_append_left hn] at e1
      rw [List.getElem?_append_left (by rw [← h.len]; exact hn)] at e2
      have q := h.cell n a c e1 e2
      cases c with
      | lst es => obtain ⟨vs, e3, r⟩ := q; exact ⟨vs, e3, r.less (fun _ => Em.push_has hb) fun n a => Em.push_get n a⟩
    · have hn2 : n = ι.c.length := by
        have := (List.getElem?_eq_some_iff.mp e1).1
        simp at this; omega
      subst hn2
      rw [List.getElem?_append_right (Nat.le_refl _)] at e1
      rw [h.len, List.getElem?_append_right (Nat.le_refl _)] at e2
      simp at e1 e2
      subst e1; subst e2
      exact ⟨us, e, r.less (fun _ => Em.push_has hb) fun n a => Em.push_get n a⟩
end

/-! ### environments -/
def Er1 (K : PySem.W.Frag) (H : Hp) (ι : Em) (x : Option V) : Option D → Prop
  | none => True
  | some d => ∃ v, x = some v ∧ Rp K H ι v d
structure Er (K : PySem.W.Frag) (H : Hp) (ι : Em) (σ : L2.St) (env : Env) : Prop where
  len : σ.length = env.length
  at_ : ∀ (i : Nat) (d : D), env[i]? = some (some d) → ∃ v, σ[i]? = some (some v) ∧ Rp K H ι v d
section
variable {K : PySem.W.Frag} {ι ι' : Em} {H H' : Hp} {σ : L2.St} {env : Env}
theorem Er.ext (e : Ext ι H ι' H') (h : Er K H ι σ env) : Er K H' ι' σ env := ⟨h.len, fun i d q => let ⟨v, a, b⟩ := h.at_ i d q; ⟨v, a, b.ext e⟩⟩
theorem Er.set {i : Nat} {v : V} {d : D} (h : Er K H ι σ env) (r : Rp K H ι v d) : Er K H ι (σ.set i (some v)) (env.set i (some d)) := by
  refine ⟨by simp [h.len], fun j e q => ?_⟩
  by_cases hj : i = j
  · subst hj
    have hl : i < env.length := by
      have := (List.getElem?_eq_some_iff.mp q).1
      simpa using this
    rw [List.getElem?_set_self hl] at q
    cases q
    exact ⟨v, List.getElem?_set_self (by rw [h.len]; exact hl), r⟩
  · rw [List.getElem?_set_ne hj] at q ⊢
    exact h.at_ j e q
theorem Er.unset {i : Nat} {x : Option V} (h : Er K H ι σ env) : Er K H ι (σ.set i x) (env.set i none) := by
  refine ⟨by simp [h.len], fun j e q => ?_⟩
  by_cases hj : i = j
  · subst hj
    have hl : i < env.length := by
      have := (List.getElem?_eq_some_iff.mp q).1
      simpa using this
    rw [List.getElem?_set_self hl] at q
    cases q
  · rw [List.getElem?_set_ne hj] at q ⊢
    exact h.at_ j e q
end

/-! ### readings -/
/-- a class's address by its name -/
def clsOf (mg : Str → Option Value) (c : Str) : Option Value := mg c
/-- what is wished of a result -/
def Post {α β : Type} (K : PySem.W.Frag) (mg : Str → Option Value) (Rel : Hp → Em → β → α → Prop) (W : WX) (σ : L2.St) (ι : Em) (H : Hp) (r : R α) (Q : β → Hp → Prop) : Prop := match r with
  | .ok a S' => ∀ ι' H' v, Ext ι H ι' H' → Sr K H' ι' S' → Rel H' ι' v a → Q v H'
  | .ex c fs S' => ∀ ι' H' dd C us, Ext ι H ι' H' → Sr K H' ι' S' → mg c = some (.ref C) → H' dd = some (.xd ((fs.map (·.1)).zip us)) → ¬ ι'.has dd → Rps K H' ι' us (fs.map (·.2)) → W (.ref C) (some dd) σ H'
  | .bad => False
abbrev Den := Env → Sto → R D
abbrev DenA := Env → Sto → R (List D)
abbrev DenT := Env → Sto → R Bool
def rd (K : PySem.W.Frag) (mg : Str → Option Value) (W : WX) (d : Den) : TE := fun σ H Q => ∃ ι env S, Sr K H ι S ∧ Er K H ι σ env ∧ Post K mg (Rp K) W σ ι H (d env S) Q
def rdA (K : PySem.W.Frag) (mg : Str → Option Value) (W : WX) (d : DenA) : TA := fun σ H Q => ∃ ι env S, Sr K H ι S ∧ Er K H ι σ env ∧ Post K mg (Rps K) W σ ι H (d env S) Q
def rdT (K : PySem.W.Frag) (mg : Str → Option Value) (W : WX) (d : DenT) : TT := fun σ H Q => ∃ ι env S, Sr K H ι S ∧ Er K H ι σ env ∧ Post K mg (fun _ _ b c => b = c) W σ ι H (d env S) Q
section
variable {K : PySem.W.Frag} {mg : Str → Option Value} {W : WX} {σ : L2.St} {ι ι' : Em} {H H' : Hp} {S : Sto}
theorem Post.ext {α β : Type} {Rel : Hp → Em → β → α → Prop} {r : R α} {Q : β → Hp → Prop} (h : Post K mg Rel W σ ι H r Q) (e : Ext ι H ι' H') (s : Sr K H' ι' S) : Post K mg Rel W σ ι' H' r Q := by
  cases r with
  | ok a S' => exact fun ι2 H2 v e2 s2 r2 => h ι2 H2 v (e.tr s e2) s2 r2
  | ex c fs S' => exact fun ι2 H2 dd C gs e2 s2 hc => h ι2 H2 dd C gs (e.tr s e2) s2 hc
  | bad => exact h
theorem Post.mono {α β : Type} {Rel : Hp → Em → β → α → Prop} {r : R α} {Q Q' : β → Hp → Prop} (h : Post K mg Rel W σ ι H r Q) (f : ∀ v H, Q v H → Q' v H) : Post K mg Rel W σ ι H r Q' := by
  cases r with
  | ok a S' => exact fun ι2 H2 v e2 s2 r2 => f _ _ (h ι2 H2 v e2 s2 r2)
  | ex c fs S' => exact h
  | bad => exact h
theorem Post.bind {α β α' β' : Type} {Rel : Hp → Em → β → α → Prop} {Rel' : Hp → Em → β' → α' → Prop} {r : R α'} {k : α' → Sto → R α} {Q : β → Hp → Prop} (h : Post K mg Rel W σ ι H (r.bind k) Q) :
    Post K mg Rel' W σ ι H r (fun x H1 => ∃ ι1 a S1, Ext ι H ι1 H1 ∧ Sr K H1 ι1 S1 ∧ Rel' H1 ι1 x a ∧ Post K mg Rel W σ ι1 H1 (k a S1) Q) := by
  cases r with
  | ok a S' => exact fun ι2 H2 v e2 s2 r2 => ⟨ι2, a, S', e2, s2, r2, Post.ext h e2 s2⟩
  | ex c fs S' => exact h
  | bad => exact h
theorem Post.ret {α β : Type} {Rel : Hp → Em → β → α → Prop} {a : α} {v : β} {Q : β → Hp → Prop} (h : Post K mg Rel W σ ι H (.ok a S) Q) (s : Sr K H ι S) (r : Rel H ι v a) : Q v H := h ι H v Ext.refl s r
end
theorem PE.imp {X : Cx} {e : Expr} {t t' : TE} (h : PE X e t) (f : ∀ σ H Q, t' σ H Q → t σ H Q) : PE X e t' := ⟨fun pins s σ H Q I q => h.run pins s σ H Q I (f σ H Q q)⟩
theorem PT.imp {X : Cx} {e : Expr} {t t' : TT} (h : PT X e t) (f : ∀ σ H Q, t' σ H Q → t σ H Q) : PT X e t' := ⟨fun pins s σ H Q I q => h.run pins s σ H Q I (f σ H Q q)⟩
theorem PA.imp {X : Cx} {e : List Expr} {t t' : TA} (h : PA X e t) (f : ∀ σ H Q, t' σ H Q → t σ H Q) : PA X e t' := ⟨fun pos pins s σ H Q I q => h.run pos pins s σ H Q I (f σ H Q q)⟩
theorem PS.imp {X : Cx} {e : Stmt} {t t' : TS} (h : PS X e t) (f : ∀ D σ H, t' D σ H → t D σ H) : PS X e t' := ⟨fun pins s σ H D I q => h.run pins s σ H D I (f D σ H q)⟩
theorem PSs.imp {X : Cx} {e : List Stmt} {t t' : TS} (h : PSs X e t) (f : ∀ D σ H, t' D σ H → t D σ H) : PSs X e t' := ⟨fun pins s σ H D I q => h.run pins s σ H D I (f D σ H q)⟩
end Z
end

section
set_option Elab.async false
set_option linter.all false
set_option maxRecDepth 100000
set_option maxHeartbeats 1000000
namespace Z
noncomputable section
open PySem PySem.Spec PyProof.Rows L2

/-! ### what stands behind a list's value -/
/-- the items of a sequence: a tuple, a list -/
def seqOf (S : Sto) : D → Option (List D)
  | .tup xs => some xs
  | .lst xs => some xs
  | .frz xs => some xs
  | .ref n => match S[n]? with
    | some (.lst xs) => some xs
    | none => none
  | _ => none
/-- the items of a list -/
def lstOf (S : Sto) : D → Option (List D)
  | .lst xs => some xs
  | .frz xs => some xs
  | .ref n => match S[n]? with
    | some (.lst xs) => some xs
    | none => none
  | _ => none
/-- the items of a list that is laid in the call -/
def ownOf (S : Sto) : D → Option (List D)
  | .lst xs => some xs
  | .ref n => match S[n]? with
    | some (.lst xs) => some xs
    | none => none
  | _ => none
section
variable {K : PySem.W.Frag} {H : Hp} {ι : Em} {S : Sto} {v : V} {d : D} {xs : List D}
theorem Sr.list (s : Sr K H ι S) {n : Nat} {a : Addr} (h : ι.c[n]? = some a) (e : S[n]? = some (.lst xs)) : ∃ vs, H a = some (.lst vs) ∧ Rps K H ι vs xs := s.cell n a _ h e
theorem own_inv (s : Sr K H ι S) (r : Rp K H ι v d) (e : ownOf S d = some xs) : ∃ a vs, v = .ref a ∧ H a = some (.lst vs) ∧ Rps K H ι vs xs := by
  cases d with
  | lst ys => cases e; obtain ⟨a, vs, e1, _, e2, e3⟩ := r.lst_inv; exact ⟨a, vs, e1, e2, e3⟩
  | ref n =>
    obtain ⟨a, e1, e2⟩ := r.ref_inv
    simp only [ownOf] at e
    split at e
    · rename_i e3; cases e; obtain ⟨vs, h1, h2⟩ := s.list e2 e3; exact ⟨a, vs, e1, h1, h2⟩
    · cases e
  | _ => cases e
theorem lst_inv (s : Sr K H ι S) (r : Rp K H ι v d) (e : lstOf S d = some xs) : ∃ a vs, v = .ref a ∧ SqL K H a vs ∧ Rps K H ι vs xs := by
  cases d with
  | lst ys => cases e; obtain ⟨a, vs, e1, _, e2, e3⟩ := r.lst_inv; exact ⟨a, vs, e1, .of e2, e3⟩
  | frz ys => cases e; exact r.frz_inv
  | ref n =>
    obtain ⟨a, e1, e2⟩ := r.ref_inv
    simp only [lstOf] at e
    split at e
    · rename_i e3; cases e; obtain ⟨vs, h1, h2⟩ := s.list e2 e3; exact ⟨a, vs, e1, .of h1, h2⟩
    · cases e
  | _ => cases e
theorem seq_inv (s : Sr K H ι S) (r : Rp K H ι v d) (e : seqOf S d = some xs) : ∃ a vs, v = .ref a ∧ (SqL K H a vs ∨ SqT K H a vs) ∧ Rps K H ι vs xs := by
  cases d with
  | tup ys => cases e; obtain ⟨a, vs, e1, e2, e3⟩ := r.tup_inv; exact ⟨a, vs, e1, .inr e2, e3⟩
  | lst ys => cases e; obtain ⟨a, vs, e1, _, e2, e3⟩ := r.lst_inv; exact ⟨a, vs, e1, .inl (.of e2), e3⟩
  | frz ys => cases e; obtain ⟨a, vs, e1, e2, e3⟩ := r.frz_inv; exact ⟨a, vs, e1, .inl e2, e3⟩
  | ref n =>
    obtain ⟨a, e1, e2⟩ := r.ref_inv
    simp only [seqOf] at e
    split at e
    · rename_i e3; cases e; obtain ⟨vs, h1, h2⟩ := s.list e2 e3; exact ⟨a, vs, e1, .inl (.of h1), h2⟩
    · cases e
  | _ => cases e
end

/-! ### making objects -/
/-- a new list: data, or a cell -/
def mkL (c : Bool) (xs : List D) (S : Sto) : R D := if Fit xs.length then (if c then .ok (.ref S.length) (S ++ [.lst xs]) else .ok (.lst xs) S) else .bad
def mkT (xs : List D) (S : Sto) : R D := if Fit xs.length then .ok (.tup xs) S else .bad
section
variable {K : PySem.W.Frag} {mg : Str → Option Value} {W : WX} {σ : L2.St} {H : Hp} {ι : Em} {S : Sto} {xs : List D} {vs : List V} {Q : VK}
theorem Post.mkL {c : Bool} (h : Post K mg (Rp K) W σ ι H (mkL c xs S) Q) (s : Sr K H ι S) (r : Rps K H ι vs xs) : vs.length ≤ sizeLine ∧ ∀ p, H p = none → Q (.ref p) (upd H p (.lst vs)) := by
  unfold Z.mkL at h
  by_cases hl : Fit xs.length
  · rw [if_pos hl] at h
    refine ⟨by rw [r.length]; exact hl, fun p hp => ?_⟩
    cases c with
    | true =>
      exact h _ _ _ (Ext.newC hp) (s.newC hp r) (.ref (by show (ι.c ++ [p])[S.length]? = some p; rw [← s.len]; simp))
    | false => exact h _ _ _ (Ext.new hp) (s.new hp) (.lst (s.out hp) upd_same (r.ext (Ext.new hp)))
  · rw [if_neg hl] at h; exact h.elim
theorem Post.mkT (h : Post K mg (Rp K) W σ ι H (mkT xs S) Q) (s : Sr K H ι S) (r : Rps K H ι vs xs) : vs.length ≤ sizeLine ∧ ∀ p, H p = none → Q (.ref p) (upd H p (.tup vs)) := by
  unfold Z.mkT at h
  by_cases hl : Fit xs.length
  · rw [if_pos hl] at h
    exact ⟨by rw [r.length]; exact hl, fun p hp => h _ _ _ (Ext.new hp) (s.new hp) (.tup (s.out hp) upd_same (r.ext (Ext.new hp)))⟩
  · rw [if_neg hl] at h; exact h.elim
end

/-! ### names and constants -/
def dVar (i : Nat) : Den := fun env S => match env[i]? with
  | some (some d) => .ok d S
  | _ => .bad
def dC (d : D) : Den := fun _ S => .ok d S
section
variable {X : Cx} {W : WX}
abbrev EE (X : Cx) (W : WX) (e : Expr) (d : Den) : Prop := PE X e (rd X.K X.mg W d)
abbrev TT' (X : Cx) (W : WX) (e : Expr) (d : DenT) : Prop := PT X e (rdT X.K X.mg W d)
abbrev AA (X : Cx) (W : WX) (e : List Expr) (d : DenA) : Prop := PA X e (rdA X.K X.mg W d)
theorem rd_var {K : PySem.W.Frag} {mg : Str → Option Value} {i : Nat} {σ : L2.St} {H : Hp} {Q : VK} (h : rd K mg W (dVar i) σ H Q) : tVar i σ H Q := by
  obtain ⟨ι, env, S, s, er, p⟩ := h
  unfold dVar at p
  split at p
  · rename_i d e
    obtain ⟨v, e1, r⟩ := er.at_ i d e
    exact ⟨v, e1, p.ret s r⟩
  · exact p.elim
theorem ev (i : Nat) {x : Str} {pos : Pos} (hN : X.N[i]? = some x := by rfl) (hv : Vis X.env.scope x := by first | exact Or.inl rfl | exact Or.inr (Or.inl rfl) | exact Or.inr (Or.inr rfl)) (hd : (x == ("__debug__" : Str)) = false := by decide)
    (hcd : (x == ("__classdict__" : Str)) = false := by decide) : EE X W (.Name x pos) (dVar i) := PE.imp (pe_var hN hv hd hcd) fun _ _ _ h => rd_var h
/-- the constant data -/
inductive Flat : V → D → Prop
  | non : Flat .non .non
  | bl (b : Bool) : Flat (.bl b) (.bl b)
  | int (i : Int) : Flat (.int i) (.int i)
  | str (x : Str) : Flat (.str x) (.str x)
theorem Flat.rp {K : PySem.W.Frag} {H : Hp} {ι : Em} {v : V} {d : D} (h : Flat v d) : Rp K H ι v d := by cases h <;> constructor
theorem rd_c {K : PySem.W.Frag} {mg : Str → Option Value} {v : V} {d : D} {σ : L2.St} {H : Hp} {Q : VK} (f : ∀ ι, Rp K H ι v d) (h : rd K mg W (dC d) σ H Q) : tC v σ H Q := by
  obtain ⟨ι, env, S, s, er, p⟩ := h
  exact p.ret s (f ι)
theorem ec_int {i : Int} {j pos} : EE X W (.Constant (.int i) j pos) (dC (.int i)) := PE.imp pe_int fun _ _ _ h => rd_c (fun _ => .int i) h
theorem ec_bl {b : Bool} {j pos} : EE X W (.Constant (.bool b) j pos) (dC (.bl b)) := PE.imp pe_bl fun _ _ _ h => rd_c (fun _ => .bl b) h
theorem ec_non {j pos} : EE X W (.Constant .none j pos) (dC .non) := PE.imp pe_non fun _ _ _ h => rd_c (fun _ => .non) h
theorem ec_str {x : Str} {j pos} : EE X W (.Constant (.str x) j pos) (dC (.str x)) := PE.imp pe_str fun _ _ _ h => rd_c (fun _ => .str x) h
/-- a constant of the module: data of the written part -/
theorem e_glob {x : Str} {u : Value} {v : V} {d : D} {pos : Pos} (hg : Gl X x) (hm : X.mg x = some u) (r : RelV v u) (f : ∀ H ι, Rp X.K H ι v d) (hd : (x == ("__debug__" : Str)) = false := by decide) : EE X W (.Name x pos) (dC d) :=
  PE.imp (pe_glob hg hm r hd) fun _ _ _ h => rd_c (f _) h
end

/-! ### two places -/
def bin (f : D → D → Sto → R D) (a b : Den) : Den := fun env S => (a env S).bind fun x S1 => (b env S1).bind fun y S2 => f x y S2
def OpS (K : PySem.W.Frag) (r : R2) (f : D → D → Sto → R D) : Prop :=
  ∀ (mg : Str → Option Value) (W : WX) (σ : L2.St) (ι : Em) (H : Hp) (S : Sto) (x y : V) (dx dy : D) (Q : VK), Sr K H ι S → Rp K H ι x dx → Rp K H ι y dy → Post K mg (Rp K) W σ ι H (f dx dy S) Q → r x y H Q
section
variable {X : Cx} {W : WX} {a b c : Expr} {da db dc : Den} {pos : Pos} {r r' : R2} {f g : D → D → Sto → R D}
theorem rd_bin {K : PySem.W.Frag} {mg : Str → Option Value} {σ : L2.St} {H : Hp} {Q : VK} (hf : OpS K r f) (h : rd K mg W (bin f da db) σ H Q) : tOp r (rd K mg W da) (rd K mg W db) σ H Q := by
  obtain ⟨ι, env, S, s, er, p⟩ := h
  refine ⟨ι, env, S, s, er, (Post.bind (Rel' := Rp K) p).mono ?_⟩
  rintro x H1 ⟨ι1, dx, S1, e1, s1, r1, p1⟩
  refine ⟨ι1, env, S1, s1, er.ext e1, (Post.bind (Rel' := Rp K) p1).mono ?_⟩
  rintro y H2 ⟨ι2, dy, S2, e2, s2, r2, p2⟩
  exact hf mg W σ ι2 H2 S2 x y dx dy Q s2 (r1.ext e2) r2 p2
theorem e_op {op : Operator} (ho : OpR X (binaryOp op) r) (hf : OpS X.K r f) (ha : EE X W a da) (hb : EE X W b db) : EE X W (.BinOp a op b pos) (bin f da db) := PE.imp (pe_op ho ha hb) fun _ _ _ h => rd_bin hf h
theorem e_cmp {op : CmpOp} (ho : OpR X (compareOp op) r) (hf : OpS X.K r f) (ha : EE X W a da) (hb : EE X W b db) (hm : behindInMarks op b = false := by first | exact nomark _ | rfl) : EE X W (.Compare a [op] [b] pos) (bin f da db) := PE.imp (pe_cmpR ho ha hb hm) fun _ _ _ h => rd_bin hf h
theorem e_ix {r : R2} (ho : IxR X r) (hf : OpS X.K r f) (ha : EE X W a da) (hb : EE X W b db) (hs : PlainIx b := by exact fun _ _ => rfl) : EE X W (.Subscript a b pos) (bin f da db) := PE.imp (pe_ix ho ha hb hs) fun _ _ _ h => rd_bin hf h
theorem OpS.or1 {K : PySem.W.Frag} (h : OpS K r f) : OpS K (fun x y H Q => r x y H Q ∨ r' x y H Q) f := fun mg W σ ι H S x y dx dy Q s rx ry p => .inl (h mg W σ ι H S x y dx dy Q s rx ry p)
/-- a op1 b op2 c -/
def chain (f g : D → D → Sto → R D) (a b c : Den) : Den := fun env S => (a env S).bind fun x S1 => (b env S1).bind fun y S2 => (f x y S2).bind fun z S3 => match z with
  | .bl true => (c env S3).bind fun w S4 => g y w S4
  | .bl false => .ok (.bl false) S3
  | _ => .bad
theorem rd_chain {K : PySem.W.Frag} {mg : Str → Option Value} {σ : L2.St} {H : Hp} {Q : VK} (hf : OpS K r f) (hg : OpS K r' g) (h : rd K mg W (chain f g da db dc) σ H Q) : tChain r r' (rd K mg W da) (rd K mg W db) (rd K mg W dc) σ H Q := by
  obtain ⟨ι, env, S, s, er, p⟩ := h
  refine ⟨ι, env, S, s, er, (Post.bind (Rel' := Rp K) p).mono ?_⟩
  rintro x H1 ⟨ι1, dx, S1, e1, s1, r1, p1⟩
  refine ⟨ι1, env, S1, s1, er.ext e1, (Post.bind (Rel' := Rp K) p1).mono ?_⟩
  rintro y H2 ⟨ι2, dy, S2, e2, s2, r2, p2⟩
  refine hf mg W σ ι2 H2 S2 x y dx dy _ s2 (r1.ext e2) r2 ((Post.bind (Rel' := Rp K) p2).mono ?_)
  rintro z H3 ⟨ι3, dz, S3, e3, s3, r3, p3⟩
  cases dz with
  | bl k =>
    cases r3
    refine ⟨k, rfl, ?_⟩
    cases k with
    | true =>
      rw [if_pos rfl]
      refine ⟨ι3, env, S3, s3, ((er.ext e1).ext e2).ext e3, (Post.bind (Rel' := Rp K) p3).mono ?_⟩
      rintro w H4 ⟨ι4, dw, S4, e4, s4, r4, p4⟩
      exact hg mg W σ ι4 H4 S4 y w dy dw Q s4 ((r2.ext e3).ext e4) r4 p4
    | false =>
      rw [if_neg Bool.false_ne_true]
      exact p3.ret s3 (.bl false)
  | _ => exact p3.elim
theorem e_chain {op op' : CmpOp} (ho : OpR X (compareOp op) r) (ho' : OpR X (compareOp op') r') (hf : OpS X.K r f) (hg : OpS X.K r' g) (ha : EE X W a da) (hb : EE X W b db) (hc : EE X W c dc)
    (hm : lastMarks [op, op'] [b, c] = false := by with_unfolding_all rfl) : EE X W (.Compare a [op, op'] [b, c] pos) (chain f g da db dc) := PE.imp (pe_chain ho ho' ha hb hc hm) fun _ _ _ h => rd_chain hf hg h
end

/-! ### ints -/
def fAdd (x y : D) (S : Sto) : R D := match x, y with
  | .int i, .int j => .ok (.int (i + j)) S
  | _, _ => .bad
def fSub (x y : D) (S : Sto) : R D := match x, y with
  | .int i, .int j => .ok (.int (i - j)) S
  | _, _ => .bad
def MulOk (i j : Int) : Prop := CMul i j ∨ CMulW i j
noncomputable instance (i j : Int) : Decidable (MulOk i j) := Classical.propDecidable _
def fMul (x y : D) (S : Sto) : R D := match x, y with
  | .int i, .int j => if MulOk i j then .ok (.int (i * j)) S else .bad
  | _, _ => .bad
def DivOk (j : Int) : Prop := 0 < j ∧ j.natAbs.log2 < 9000
noncomputable instance (j : Int) : Decidable (DivOk j) := Classical.propDecidable _
def fDiv (x y : D) (S : Sto) : R D := match x, y with
  | .int i, .int j => if DivOk j then .ok (.int (i / j)) S else .bad
  | _, _ => .bad
def fMod (x y : D) (S : Sto) : R D := match x, y with
  | .int i, .int j => if 0 < j then .ok (.int (i % j)) S else .bad
  | _, _ => .bad
noncomputable instance (i j : Int) : Decidable (CPow i j) := Classical.propDecidable _
def fPow (x y : D) (S : Sto) : R D := match x, y with
  | .int i, .int j => if CPow i j then .ok (.int (i ^ j.toNat)) S else .bad
  | _, _ => .bad
def fLt (x y : D) (S : Sto) : R D := match x, y with
  | .int i, .int j => .ok (.bl (decide (i < j))) S
  | _, _ => .bad
def fLe (x y : D) (S : Sto) : R D := match x, y with
  | .int i, .int j => .ok (.bl (decide (i ≤ j))) S
  | _, _ => .bad
def fGt (x y : D) (S : Sto) : R D := match x, y with
  | .int i, .int j => .ok (.bl (decide (j < i))) S
  | _, _ => .bad
def fGe (x y : D) (S : Sto) : R D := match x, y with
  | .int i, .int j => .ok (.bl (decide (j ≤ i))) S
  | _, _ => .bad
section
variable {K : PySem.W.Frag} {X : Cx}
theorem int2 {H : Hp} {ι : Em} {x y : V} {i j : Int} (rx : Rp K H ι x (.int i)) (ry : Rp K H ι y (.int j)) : x = .int i ∧ y = .int j := ⟨rx.int_inv, ry.int_inv⟩
theorem opI0S {g : Int → Int → V} {f : D → D → Sto → R D} {gd : Int → Int → D} (hf : ∀ x y S, f x y S = match x, y with | .int i, .int j => .ok (gd i j) S | _, _ => .bad) (hg : ∀ i j, Flat (g i j) (gd i j)) : OpS K (rI0 g) f := by
  intro mg W σ ι H S x y dx dy Q s rx ry p
  rw [hf] at p
  split at p
  · rename_i i j
    obtain ⟨rfl, rfl⟩ := int2 rx ry
    exact ⟨i, j, rfl, rfl, p.ret s (hg i j).rp⟩
  · exact p.elim
theorem opIS {C : Int → Int → Prop} {D' : Int → Int → Prop} [∀ i j, Decidable (D' i j)] {g : Int → Int → V} {f : D → D → Sto → R D} {gd : Int → Int → D} (hf : ∀ x y S, f x y S = match x, y with | .int i, .int j => if D' i j then .ok (gd i j) S else .bad | _, _ => .bad) (hc : ∀ i j, D' i j → C i j) (hg : ∀ i j, Flat (g i j) (gd i j)) : OpS K (rI C g) f := by
  intro mg W σ ι H S x y dx dy Q s rx ry p
  rw [hf] at p
  split at p
  · rename_i i j
    obtain ⟨rfl, rfl⟩ := int2 rx ry
    by_cases h : D' i j
    · rw [if_pos h] at p; exact ⟨i, j, rfl, rfl, hc i j h, p.ret s (hg i j).rp⟩
    · rw [if_neg h] at p; exact p.elim
  · exact p.elim
theorem sAdd : OpS K (rI0 fun i j => .int (i + j)) fAdd := opI0S (fun _ _ _ => rfl) fun _ _ => .int _
theorem sSub : OpS K (rI0 fun i j => .int (i - j)) fSub := opI0S (fun _ _ _ => rfl) fun _ _ => .int _
def rMul : R2 := fun x y H Q => (rI CMul fun i j => .int (i * j)) x y H Q ∨ (rI CMulW fun i j => .int (i * j)) x y H Q
theorem oMul : OpR X (binaryOp .Mult) rMul := op_mul.or op_mulW
theorem sMul : OpS K rMul fMul := by
  intro mg W σ ι H S x y dx dy Q s rx ry p
  unfold fMul at p
  split at p
  · rename_i i j
    obtain ⟨rfl, rfl⟩ := int2 rx ry
    by_cases h : MulOk i j
    · rw [if_pos h] at p
      rcases h with h | h
      · exact .inl ⟨i, j, rfl, rfl, h, p.ret s (.int _)⟩
      · exact .inr ⟨i, j, rfl, rfl, h, p.ret s (.int _)⟩
    · rw [if_neg h] at p; exact p.elim
  · exact p.elim
theorem sDiv : OpS K (rI CDivW fun i j => .int (i / j)) fDiv := opIS (D' := fun _ j => DivOk j) (fun _ _ _ => rfl) (fun _ _ h => h) fun _ _ => .int _
theorem sMod : OpS K (rI (fun _ j => 0 < j) fun i j => .int (i % j)) fMod := opIS (D' := fun _ j => 0 < j) (fun _ _ _ => rfl) (fun _ _ h => h) fun _ _ => .int _
theorem sPow : OpS K (rI CPow fun i j => .int (i ^ j.toNat)) fPow := opIS (D' := CPow) (fun _ _ _ => rfl) (fun _ _ h => h) fun _ _ => .int _
theorem sLt : OpS K (rI0 fun i j => .bl (decide (i < j))) fLt := opI0S (fun _ _ _ => rfl) fun _ _ => .bl _
theorem sLe : OpS K (rI0 fun i j => .bl (decide (i ≤ j))) fLe := opI0S (fun _ _ _ => rfl) fun _ _ => .bl _
theorem sGt : OpS K (rI0 fun i j => .bl (decide (j < i))) fGt := opI0S (fun _ _ _ => rfl) fun _ _ => .bl _
theorem sGe : OpS K (rI0 fun i j => .bl (decide (j ≤ i))) fGe := opI0S (fun _ _ _ => rfl) fun _ _ => .bl _
end

/-! ### one place -/
def un (f : D → Sto → R D) (a : Den) : Den := fun env S => (a env S).bind f
def UnS (K : PySem.W.Frag) (r : V → Hp → VK → Prop) (f : D → Sto → R D) : Prop :=
  ∀ (mg : Str → Option Value) (W : WX) (σ : L2.St) (ι : Em) (H : Hp) (S : Sto) (x : V) (dx : D) (Q : VK), Sr K H ι S → Rp K H ι x dx → Post K mg (Rp K) W σ ι H (f dx S) Q → r x H Q
def fNeg (x : D) (S : Sto) : R D := match x with
  | .int i => .ok (.int (-i)) S
  | _ => .bad
section
variable {X : Cx} {W : WX} {a b : Expr} {da db : Den} {pos : Pos} {r : V → Hp → VK → Prop} {f : D → Sto → R D}
theorem rd_un {K : PySem.W.Frag} {mg : Str → Option Value} {σ : L2.St} {H : Hp} {Q : VK} (hf : UnS K r f) (h : rd K mg W (un f da) σ H Q) : tUn r (rd K mg W da) σ H Q := by
  obtain ⟨ι, env, S, s, er, p⟩ := h
  refine ⟨ι, env, S, s, er, (Post.bind (Rel' := Rp K) p).mono ?_⟩
  rintro x H1 ⟨ι1, dx, S1, e1, s1, r1, p1⟩
  exact hf mg W σ ι1 H1 S1 x dx Q s1 r1 p1
theorem e_un {op : UnaryOp} (ho : UnR X (unaryOp op) r) (hf : UnS X.K r f) (ha : EE X W a da) : EE X W (.UnaryOp op a pos) (un f da) := PE.imp (pe_un ho ha) fun _ _ _ h => rd_un hf h
theorem sNeg {K : PySem.W.Frag} : UnS K (rU fun i => .int (-i)) fNeg := by
  intro mg W σ ι H S x dx Q s rx p
  unfold fNeg at p
  split at p
  · cases rx; exact ⟨_, rfl, p.ret s (.int _)⟩
  · exact p.elim
end

/-! ### is -/
def isNon : D → Bool
  | .non => true
  | _ => false
def isBl (b : Bool) : D → Bool
  | .bl c => b == c
  | _ => false
def dIsN (a : Den) : Den := fun env S => (a env S).bind fun x S1 => .ok (.bl (isNon x)) S1
def dNotN (a : Den) : Den := fun env S => (a env S).bind fun x S1 => .ok (.bl (!isNon x)) S1
def dIsB (b : Bool) (a : Den) : Den := fun env S => (a env S).bind fun x S1 => .ok (.bl (isBl b x)) S1
def dNotB (b : Bool) (a : Den) : Den := fun env S => (a env S).bind fun x S1 => .ok (.bl (!isBl b x)) S1
section
variable {X : Cx} {W : WX} {a b : Expr} {da db : Den} {pos : Pos}
theorem Rp.isNon {K : PySem.W.Frag} {H : Hp} {ι : Em} {v : V} {d : D} (h : Rp K H ι v d) : decide (v = .non) = Z.isNon d := by cases h <;> simp [Z.isNon]
theorem Rp.isBl {K : PySem.W.Frag} {H : Hp} {ι : Em} {v : V} {d : D} {b : Bool} (h : Rp K H ι v d) : decide (v = .bl b) = Z.isBl b d := by
  cases h <;> simp [Z.isBl]
  rename_i c
  cases b <;> cases c <;> rfl
theorem e_isN {j pos'} (ha : EE X W a da) : EE X W (.Compare a [.Is] [.Constant .none j pos'] pos) (dIsN da) := PE.imp (pe_cmp (pc_isN ha)) fun σ H Q h => by
  obtain ⟨ι, env, S, s, er, p⟩ := h
  refine ⟨ι, env, S, s, er, (Post.bind (Rel' := Rp X.K) p).mono ?_⟩
  rintro x H1 ⟨ι1, dx, S1, e1, s1, r1, p1⟩
  rw [r1.isNon]; exact p1.ret s1 (.bl _)
theorem e_notN {j pos'} (ha : EE X W a da) : EE X W (.Compare a [.IsNot] [.Constant .none j pos'] pos) (dNotN da) := PE.imp (pe_cmp (pc_notN ha)) fun σ H Q h => by
  obtain ⟨ι, env, S, s, er, p⟩ := h
  refine ⟨ι, env, S, s, er, (Post.bind (Rel' := Rp X.K) p).mono ?_⟩
  rintro x H1 ⟨ι1, dx, S1, e1, s1, r1, p1⟩
  rw [r1.isNon]; exact p1.ret s1 (.bl _)
def rIsBl (b : Bool) : R2 := fun x y H Q => y = .bl b ∧ Q (.bl (decide (x = .bl b))) H
def rNotBl (b : Bool) : R2 := fun x y H Q => y = .bl b ∧ Q (.bl (!decide (x = .bl b))) H
theorem bl_other {b : Bool} {x : V} {v : Value} (r : RelV x v) (h : x ≠ .bl b) : v ≠ .bool b := by
  intro e; subst e
  exact h (r.inj (show RelV (.bl b) (.bool b) from rfl))
theorem plain_isB {x : V} {v : Value} {b : Bool} (r : RelV x v) : plainIs v (.bool b) = true := by
  cases x with
  | non => cases (show v = Value.none from r); rfl
  | bl c => cases (show v = Value.bool c from r); rfl
  | int i => obtain ⟨t, rfl⟩ := r; rfl
  | str i => obtain ⟨t, rfl⟩ := r; rfl
  | byt i => obtain ⟨t, rfl⟩ := r; rfl
  | flt i => obtain ⟨t, rfl⟩ := r; rfl
  | ref a => cases (show v = Value.ref a from r); rfl
  | ty n => cases (show v = Value.type n from r); rfl
theorem op_isB (b : Bool) : OpR X (compareOp .Is) (rIsBl b) := by
  intro pins s σ H x y v u Q I rx ry h
  obtain ⟨rfl, q⟩ := h
  cases (show u = Value.bool b from ry)
  by_cases e : x = .bl b
  · subst e
    cases (show v = Value.bool b from rx)
    exact wpAny_is_self rfl ⟨.bl true, H, I, rfl, by simpa using q⟩
  · exact wpAny_is_other (plain_isB rx) (bl_other rx e) ⟨.bl false, H, I, rfl, by simpa [e] using q⟩
theorem op_notB (b : Bool) : OpR X (compareOp .IsNot) (rNotBl b) := by
  intro pins s σ H x y v u Q I rx ry h
  obtain ⟨rfl, q⟩ := h
  cases (show u = Value.bool b from ry)
  by_cases e : x = .bl b
  · subst e
    cases (show v = Value.bool b from rx)
    exact wpAny_isNot_self rfl ⟨.bl false, H, I, rfl, by simpa using q⟩
  · exact wpAny_isNot_other (plain_isB rx) (bl_other rx e) ⟨.bl true, H, I, rfl, by simpa [e] using q⟩
theorem e_isB {b : Bool} {j pos'} (ha : EE X W a da) : EE X W (.Compare a [.Is] [.Constant (.bool b) j pos'] pos) (dIsB b da) := PE.imp (pe_cmpR (op_isB b) ha pe_bl (nomark _)) fun σ H Q h => by
  obtain ⟨ι, env, S, s, er, p⟩ := h
  refine ⟨ι, env, S, s, er, (Post.bind (Rel' := Rp X.K) p).mono ?_⟩
  rintro x H1 ⟨ι1, dx, S1, e1, s1, r1, p1⟩
  refine ⟨rfl, ?_⟩
  rw [r1.isBl]; exact p1.ret s1 (.bl _)
theorem e_notB {b : Bool} {j pos'} (ha : EE X W a da) : EE X W (.Compare a [.IsNot] [.Constant (.bool b) j pos'] pos) (dNotB b da) := PE.imp (pe_cmpR (op_notB b) ha pe_bl (nomark _)) fun σ H Q h => by
  obtain ⟨ι, env, S, s, er, p⟩ := h
  refine ⟨ι, env, S, s, er, (Post.bind (Rel' := Rp X.K) p).mono ?_⟩
  rintro x H1 ⟨ι1, dx, S1, e1, s1, r1, p1⟩
  refine ⟨rfl, ?_⟩
  rw [r1.isBl]; exact p1.ret s1 (.bl _)
end
end
end Z
end

section
set_option Elab.async false
set_option linter.all false
set_option maxRecDepth 100000
set_option maxHeartbeats 1000000
namespace Z
noncomputable section
open PySem PySem.Spec PyProof.Rows L2

/-! ### bools -/
def asB (x : D) (S : Sto) : R Bool := match x with
  | .bl b => .ok b S
  | _ => .bad
def dAnd (a b : Den) : Den := fun env S => (a env S).bind fun x S1 => (asB x S1).bind fun c S1 => if c then b env S1 else .ok (.bl false) S1
def dOr (a b : Den) : Den := fun env S => (a env S).bind fun x S1 => (asB x S1).bind fun c S1 => if c then .ok (.bl true) S1 else b env S1
def dNot (a : Den) : Den := fun env S => (a env S).bind fun x S1 => (asB x S1).bind fun c S1 => .ok (.bl (!c)) S1
def tB' (a : Den) : DenT := fun env S => (a env S).bind asB
def tAnd' (a b : DenT) : DenT := fun env S => (a env S).bind fun c S1 => if c then b env S1 else .ok false S1
def tOr' (a b : DenT) : DenT := fun env S => (a env S).bind fun c S1 => if c then .ok true S1 else b env S1
def tNot' (a : DenT) : DenT := fun env S => (a env S).bind fun c S1 => .ok (!c) S1
def dIf (t : DenT) (a b : Den) : Den := fun env S => (t env S).bind fun c S1 => if c then a env S1 else b env S1
section
variable {X : Cx} {W : WX} {a b c : Expr} {rest : List Expr} {da db dc : Den} {ta tb : DenT} {pos : Pos}
theorem Post.asB {K : PySem.W.Frag} {mg : Str → Option Value} {σ : L2.St} {H : Hp} {ι : Em} {S : Sto} {x : D} {v : V} {α β : Type} {Rel : Hp → Em → β → α → Prop} {k : Bool → Sto → R α} {Q : β → Hp → Prop} (p : Post K mg Rel W σ ι H ((Z.asB x S).bind k) Q) (r : Rp K H ι v x) :
    ∃ c, x = .bl c ∧ v = .bl c ∧ Post K mg Rel W σ ι H (k c S) Q := by
  cases x with
  | bl c => cases r; exact ⟨c, rfl, rfl, p⟩
  | _ => exact p.elim
theorem e_one {op} (h : EE X W a da) : EE X W (.BoolOp op [a] pos) da := pe_one h
theorem e_and (ha : EE X W a da) (hb : EE X W (.BoolOp .And (b :: rest) pos) db) : EE X W (.BoolOp .And (a :: b :: rest) pos) (dAnd da db) := PE.imp (pe_and ha hb) fun σ H Q h => by
  obtain ⟨ι, env, S, s, er, p⟩ := h
  refine ⟨ι, env, S, s, er, (Post.bind (Rel' := Rp X.K) p).mono ?_⟩
  rintro x H1 ⟨ι1, dx, S1, e1, s1, r1, p1⟩
  obtain ⟨c, rfl, rfl, p2⟩ := p1.asB r1
  refine ⟨c, rfl, ?_⟩
  cases c with
  | true => rw [if_pos rfl]; exact ⟨ι1, env, S1, s1, er.ext e1, p2⟩
  | false => rw [if_neg Bool.false_ne_true]; exact p2.ret s1 (.bl _)
theorem e_or (ha : EE X W a da) (hb : EE X W (.BoolOp .Or (b :: rest) pos) db) : EE X W (.BoolOp .Or (a :: b :: rest) pos) (dOr da db) := PE.imp (pe_or ha hb) fun σ H Q h => by
  obtain ⟨ι, env, S, s, er, p⟩ := h
  refine ⟨ι, env, S, s, er, (Post.bind (Rel' := Rp X.K) p).mono ?_⟩
  rintro x H1 ⟨ι1, dx, S1, e1, s1, r1, p1⟩
  obtain ⟨c, rfl, rfl, p2⟩ := p1.asB r1
  refine ⟨c, rfl, ?_⟩
  cases c with
  | false => rw [if_neg Bool.false_ne_true]; exact ⟨ι1, env, S1, s1, er.ext e1, p2⟩
  | true => rw [if_pos rfl]; exact p2.ret s1 (.bl _)
theorem e_not (ha : EE X W a da) : EE X W (.UnaryOp .Not a pos) (dNot da) := PE.imp (pe_not ha) fun σ H Q h => by
  obtain ⟨ι, env, S, s, er, p⟩ := h
  refine ⟨ι, env, S, s, er, (Post.bind (Rel' := Rp X.K) p).mono ?_⟩
  rintro x H1 ⟨ι1, dx, S1, e1, s1, r1, p1⟩
  obtain ⟨c, rfl, rfl, p2⟩ := p1.asB r1
  exact ⟨c, rfl, p2.ret s1 (.bl _)⟩
/-- a bool's value as a test -/
theorem t_B (h : EE X W a da) (he : ∀ whole, isTrue a X.env whole = (do let v ← whole; standAt a.pos; holding [v] (truthy v)) := by intro _; rfl) : TT' X W a (tB' da) := PT.imp (pt_val h he) fun σ H Q h => by
  obtain ⟨ι, env, S, s, er, p⟩ := h
  refine ⟨ι, env, S, s, er, (Post.bind (Rel' := Rp X.K) p).mono ?_⟩
  rintro x H1 ⟨ι1, dx, S1, e1, s1, r1, p1⟩
  cases dx with
  | bl c => cases r1; exact ⟨c, rfl, p1.ret s1 rfl⟩
  | _ => exact p1.elim
abbrev WW (X : Cx) (W : WX) (e : Expr) (d : DenT) : Prop := PW X e (rdT X.K X.mg W d)
theorem PW.imp {X : Cx} {e : Expr} {t t' : TT} (h : PW X e t) (f : ∀ σ H Q, t' σ H Q → t σ H Q) : PW X e t' := ⟨fun wh pins s σ H Q I q => h.run wh pins s σ H Q I (f σ H Q q)⟩
theorem w_and1 (ha : TT' X W a ta) : WW X W (.BoolOp .And [a] pos) ta := pw_and1 ha
theorem w_or1 (ha : TT' X W a ta) : WW X W (.BoolOp .Or [a] pos) ta := pw_or1 ha
theorem w_and (ha : TT' X W a ta) (hb : WW X W (.BoolOp .And (b :: rest) pos) tb) : WW X W (.BoolOp .And (a :: b :: rest) pos) (tAnd' ta tb) := PW.imp (pw_and ha hb) fun σ H Q h => by
  obtain ⟨ι, env, S, s, er, p⟩ := h
  refine ⟨ι, env, S, s, er, (Post.bind (Rel' := fun _ _ b c => b = c) p).mono ?_⟩
  rintro x H1 ⟨ι1, dx, S1, e1, s1, rfl, p1⟩
  cases x with
  | true => rw [if_pos rfl]; exact ⟨ι1, env, S1, s1, er.ext e1, p1⟩
  | false => rw [if_neg Bool.false_ne_true]; exact p1.ret s1 rfl
theorem w_or (ha : TT' X W a ta) (hb : WW X W (.BoolOp .Or (b :: rest) pos) tb) : WW X W (.BoolOp .Or (a :: b :: rest) pos) (tOr' ta tb) := PW.imp (pw_or ha hb) fun σ H Q h => by
  obtain ⟨ι, env, S, s, er, p⟩ := h
  refine ⟨ι, env, S, s, er, (Post.bind (Rel' := fun _ _ b c => b = c) p).mono ?_⟩
  rintro x H1 ⟨ι1, dx, S1, e1, s1, rfl, p1⟩
  cases x with
  | false => rw [if_neg Bool.false_ne_true]; exact ⟨ι1, env, S1, s1, er.ext e1, p1⟩
  | true => rw [if_pos rfl]; exact p1.ret s1 rfl
theorem t_not (ha : TT' X W a ta) : TT' X W (.UnaryOp .Not a pos) (tNot' ta) := PT.imp (pt_not ha) fun σ H Q h => by
  obtain ⟨ι, env, S, s, er, p⟩ := h
  refine ⟨ι, env, S, s, er, (Post.bind (Rel' := fun _ _ b c => b = c) p).mono ?_⟩
  rintro x H1 ⟨ι1, dx, S1, e1, s1, rfl, p1⟩
  exact p1.ret s1 rfl
theorem e_if (hc : TT' X W c ta) (ha : EE X W a da) (hb : EE X W b db) : EE X W (.IfExp c a b pos) (dIf ta da db) := PE.imp (pe_ifExp hc ha hb) fun σ H Q h => by
  obtain ⟨ι, env, S, s, er, p⟩ := h
  refine ⟨ι, env, S, s, er, (Post.bind (Rel' := fun _ _ b c => b = c) p).mono ?_⟩
  rintro x H1 ⟨ι1, dx, S1, e1, s1, rfl, p1⟩
  cases x with
  | true => rw [if_pos rfl]; exact ⟨ι1, env, S1, s1, er.ext e1, p1⟩
  | false => rw [if_neg Bool.false_ne_true]; exact ⟨ι1, env, S1, s1, er.ext e1, p1⟩
end

/-! ### arguments, tuples, lists -/
def aNil : DenA := fun _ S => .ok [] S
def aCons (a : Den) (r : DenA) : DenA := fun env S => (a env S).bind fun x S1 => (r env S1).bind fun xs S2 => .ok (x :: xs) S2
def dTup (a : DenA) : Den := fun env S => (a env S).bind fun xs S1 => mkT xs S1
def dLst (c : Bool) (a : DenA) : Den := fun env S => (a env S).bind fun xs S1 => mkL c xs S1
section
variable {X : Cx} {W : WX} {e : Expr} {es : List Expr} {d : Den} {da : DenA} {pos : Pos}
theorem a_nil : AA X W [] aNil := PA.imp pa_nil fun σ H Q h => by
  obtain ⟨ι, env, S, s, er, p⟩ := h
  exact p.ret s .nil
theorem a_cons (h : EE X W e d) (hr : AA X W es da) (hs : starEach (e :: es) X.env = (false, eval e X.env) :: starEach es X.env := by rfl) : AA X W (e :: es) (aCons d da) := PA.imp (pa_cons h hr hs) fun σ H Q h => by
  obtain ⟨ι, env, S, s, er, p⟩ := h
  refine ⟨ι, env, S, s, er, (Post.bind (Rel' := Rp X.K) p).mono ?_⟩
  rintro x H1 ⟨ι1, dx, S1, e1, s1, r1, p1⟩
  refine ⟨ι1, env, S1, s1, er.ext e1, (Post.bind (Rel' := Rps X.K) p1).mono ?_⟩
  rintro xs H2 ⟨ι2, dxs, S2, e2, s2, r2, p2⟩
  exact p2.ret s2 (.cons (r1.ext e2) r2)
theorem e_tup {k : Nat} (h : AA X W es da) : EE X W (.Tuple es k pos) (dTup da) := PE.imp (pe_tup h) fun σ H Q h => by
  obtain ⟨ι, env, S, s, er, p⟩ := h
  refine ⟨ι, env, S, s, er, (Post.bind (Rel' := Rps X.K) p).mono ?_⟩
  rintro xs H1 ⟨ι1, dxs, S1, e1, s1, r1, p1⟩
  exact p1.mkT s1 r1
theorem e_lst (c : Bool) (h : AA X W es da) : EE X W (.List es pos) (dLst c da) := PE.imp (pe_lst h) fun σ H Q h => by
  obtain ⟨ι, env, S, s, er, p⟩ := h
  refine ⟨ι, env, S, s, er, (Post.bind (Rel' := Rps X.K) p).mono ?_⟩
  rintro xs H1 ⟨ι1, dxs, S1, e1, s1, r1, p1⟩
  exact p1.mkL s1 r1
end

/-! ### subscripts -/
def fIx (x y : D) (S : Sto) : R D := match y with
  | .int i => match seqOf S x with
    | some xs => match atI xs i with
      | some v => .ok v S
      | none => .bad
    | none => match x with
      | .str z => if Fit z.length then match atI z.cps.toList i with
        | some c => .ok (.str ⟨#[c]⟩) S
        | none => .bad
        else .bad
      | _ => .bad
  | _ => .bad
theorem atI_rp {K : PySem.W.Frag} {H : Hp} {ι : Em} {vs : List V} {ds : List D} {i : Int} {d : D} (r : Rps K H ι vs ds) (e : atI ds i = some d) : ∃ v, atI vs i = some v ∧ Rp K H ι v d := by
  unfold atI at e ⊢
  rw [r.length]
  cases q : ixN ds.length i with
  | none => rw [q] at e; cases e
  | some j =>
    rw [q] at e
    obtain ⟨v, e1, r1⟩ := r.get (i := j) e
    exact ⟨v, e1, r1⟩
theorem sIx {K : PySem.W.Frag} : OpS K (rIx K) fIx := by
  intro mg W σ ι H S x y dx dy Q s rx ry p
  unfold fIx at p
  split at p
  · rename_i i
    cases ry
    split at p
    · rename_i xs e
      split at p
      · rename_i v e2
        obtain ⟨a, vs, rfl, hs, r⟩ := seq_inv s rx e
        obtain ⟨u, e3, r3⟩ := atI_rp r e2
        rcases hs with hs | hs
        · exact .inl ⟨a, vs, i, u, rfl, rfl, hs, e3, p.ret s r3⟩
        · exact .inr (.inl ⟨a, vs, i, u, rfl, rfl, hs, e3, p.ret s r3⟩)
      · exact p.elim
    · cases dx with
      | str z =>
        cases rx
        simp only at p
        split at p
        · rename_i hl
          split at p
          · rename_i c e2
            exact .inr (.inr ⟨z, i, c, rfl, rfl, hl, e2, p.ret s (.str _)⟩)
          · exact p.elim
        · exact p.elim
      | _ => exact p.elim
  · exact p.elim
/-- xs[lo:hi] of a list; of a text; of a tuple -/
def cutD {α : Type} (xs : List α) (lo hi : Option Int) : List α := (xs.drop (HT.sIx xs.length 0 lo)).take (HT.sIx xs.length xs.length hi - HT.sIx xs.length 0 lo)
abbrev DenO := Env → Sto → R (Option Int)
def rdO (K : PySem.W.Frag) (mg : Str → Option Value) (W : WX) (d : DenO) : TO := fun σ H Q => ∃ ι env S, Sr K H ι S ∧ Er K H ι σ env ∧ Post K mg (fun _ _ b c => b = c) W σ ι H (d env S) Q
def oNone : DenO := fun _ S => .ok none S
def asI (x : D) (S : Sto) : R Int := match x with
  | .int i => .ok i S
  | _ => .bad
def oSome (d : Den) : DenO := fun env S => (d env S).bind fun x S1 => (asI x S1).bind fun i S1 => .ok (some i) S1
def fSl (c : Bool) (x : D) (lo hi : Option Int) (S : Sto) : R D := match x with
  | .tup xs => if HT.sIx xs.length 0 lo = 0 ∧ HT.sIx xs.length xs.length hi = xs.length then .ok (.tup xs) S else .ok (.tup (cutD xs lo hi)) S
  | .str z => if Fit z.length then .ok (.str (cutS z lo hi)) S else .bad
  | _ => match lstOf S x with
    | some xs => mkL c (cutD xs lo hi) S
    | none => .bad
def dSl (c : Bool) (a : Den) (lo hi : DenO) : Den := fun env S => (a env S).bind fun x S1 => (lo env S1).bind fun l S2 => (hi env S2).bind fun h S3 => fSl c x l h S3
section
variable {X : Cx} {W : WX} {e : Expr} {d : Den} {lo hi : Option Expr} {tl th : DenO} {pos p2 : Pos}
theorem PO.imp {X : Cx} {e : Option Expr} {t t' : TO} (h : PO X e t) (f : ∀ σ H Q, t' σ H Q → t σ H Q) : PO X e t' := ⟨fun pins s σ H Q I q => h.run pins s σ H Q I (f σ H Q q)⟩
abbrev OO (X : Cx) (W : WX) (e : Option Expr) (d : DenO) : Prop := PO X e (rdO X.K X.mg W d)
theorem o_none : OO X W none oNone := PO.imp po_none fun σ H Q h => by
  obtain ⟨ι, env, S, s, er, p⟩ := h
  exact p.ret s rfl
theorem o_some (h : EE X W e d) : OO X W (some e) (oSome d) := PO.imp (po_some h) fun σ H Q h => by
  obtain ⟨ι, env, S, s, er, p⟩ := h
  refine ⟨ι, env, S, s, er, (Post.bind (Rel' := Rp X.K) p).mono ?_⟩
  rintro x H1 ⟨ι1, dx, S1, e1, s1, r1, p1⟩
  cases dx with
  | int i => cases r1; exact ⟨i, rfl, p1.ret s1 rfl⟩
  | _ => exact p1.elim
def rSlZ (K : PySem.W.Frag) : V → Option Int → Option Int → Hp → VK → Prop := fun x lo hi H Q => rSlL K x lo hi H Q ∨ rSlS x lo hi H Q ∨ rSlA K x lo hi H Q
theorem sl_Z : SlR X (rSlZ X.K) := sl_list.or (sl_str.or sl_tupA)
theorem cutD_rp {K : PySem.W.Frag} {H : Hp} {ι : Em} {vs : List V} {ds : List D} (r : Rps K H ι vs ds) (l h : Option Int) : Rps K H ι (cutV vs l h) (cutD ds l h) := by
  unfold cutV cutD
  rw [r.length]
  exact (r.drop _).take _
theorem cutD_len {α : Type} (xs : List α) (lo hi : Option Int) : (cutD xs lo hi).length ≤ xs.length := by
  unfold cutD; rw [List.length_take, List.length_drop]; omega
theorem e_sl (c : Bool) (he : EE X W e d) (hl : OO X W lo tl) (hu : OO X W hi th) : EE X W (.Subscript e (.Slice lo hi none p2) pos) (dSl c d tl th) := PE.imp (pe_slice sl_Z he hl hu) fun σ H Q h => by
  obtain ⟨ι, env, S, s, er, p⟩ := h
  refine ⟨ι, env, S, s, er, (Post.bind (Rel' := Rp X.K) p).mono ?_⟩
  rintro x H1 ⟨ι1, dx, S1, e1, s1, r1, p1⟩
  refine ⟨ι1, env, S1, s1, er.ext e1, (Post.bind (Rel' := fun _ _ b c => b = c) p1).mono ?_⟩
  rintro l H2 ⟨ι2, _, S2, e2, s2, rfl, p2⟩
  refine ⟨ι2, env, S2, s2, (er.ext e1).ext e2, (Post.bind (Rel' := fun _ _ b c => b = c) p2).mono ?_⟩
  rintro h H3 ⟨ι3, _, S3, e3, s3, rfl, p3⟩
  have rx := (r1.ext e2).ext e3
  have lst : ∀ xs, lstOf S3 dx = some xs → Post X.K X.mg (Rp X.K) W σ ι3 H3 (mkL c (cutD xs l h) S3) Q → rSlZ X.K x l h H3 Q := fun xs e4 p4 => by
    obtain ⟨a, vs, rfl, hs, r⟩ := lst_inv s3 rx e4
    exact .inl ⟨a, vs, rfl, hs, (p4.mkL s3 (cutD_rp r l h)).2⟩
  cases dx with
  | tup xs =>
    obtain ⟨a, vs, rfl, hs, r⟩ := rx.tup_inv
    refine .inr (.inr ⟨a, vs, rfl, hs, ?_, ?_⟩)
    · intro hw
      simp only [fSl] at p3
      rw [r.length] at hw
      rw [if_pos hw] at p3
      exact p3.ret s3 rx
    · intro hw q hq
      simp only [fSl] at p3
      rw [r.length] at hw
      rw [if_neg hw] at p3
      exact p3 _ _ _ (Ext.new hq) (s3.new hq) (.tup (s3.out hq) upd_same ((cutD_rp r l h).ext (Ext.new hq)))
  | str z =>
    cases rx
    simp only [fSl] at p3
    split at p3
    · rename_i hz; exact .inr (.inl ⟨z, rfl, hz, p3.ret s3 (.str _)⟩)
    · exact p3.elim
  | lst xs => simp only [fSl, lstOf] at p3; exact lst xs rfl p3
  | frz xs => simp only [fSl, lstOf] at p3; exact lst xs rfl p3
  | ref n =>
    simp only [fSl] at p3
    split at p3
    · rename_i xs e4; exact lst xs e4 p3
    · exact p3.elim
  | _ => exact p3.elim
end
end
end Z
end

section
set_option Elab.async false
set_option linter.all false
set_option maxRecDepth 100000
set_option maxHeartbeats 1000000
namespace Z
noncomputable section
open PySem PySem.Spec PyProof.Rows L2

/-! ### ==, in -/
mutual
def pyD : D → Option PyData
  | .non => some .none
  | .bl b => some (.bool b)
  | .int i => some (.int i)
  | .str x => some (.str x)
  | .tup xs => (pyA xs).map .tuple
  | .lst xs => (pyA xs).map .list
  | .frz xs => (pyA xs).map .list
  | .ref _ => none
  | .err _ _ _ _ => none
def pyA : List D → Option (List PyData)
  | [] => some []
  | x :: xs => (pyD x).bind fun p => (pyA xs).map fun ps => p :: ps
end
def pyS (S : Sto) (x : D) : Option PyData := match x with
  | .ref n => match S[n]? with
    | some (.lst xs) => (pyA xs).map .list
    | none => none
  | x => pyD x
section
variable {K : PySem.W.Frag} {H : Hp} {ι : Em}
mutual
theorem dp_of : ∀ {d : D} {v : V} {p : PyData}, Rp K H ι v d → pyD d = some p → Dp K H v p
  | .non, _, _, r, e => by cases r; cases e; exact .non
  | .bl b, _, _, r, e => by cases r; cases e; exact .bl b
  | .int b, _, _, r, e => by cases r; cases e; exact .int b
  | .str b, _, _, r, e => by cases r; cases e; exact .str b
  | .tup xs, _, _, r, e => by
    obtain ⟨a, vs, rfl, hs, rs⟩ := r.tup_inv
    rw [pyD] at e
    cases q : pyA xs with
    | none => rw [q] at e; cases e
    | some ps => rw [q] at e; cases e; exact .tup hs (dps_of rs q)
  | .lst xs, _, _, r, e => by
    obtain ⟨a, vs, rfl, _, hs, rs⟩ := r.lst_inv
    rw [pyD] at e
    cases q : pyA xs with
    | none => rw [q] at e; cases e
    | some ps => rw [q] at e; cases e; exact .lst (.of hs) (dps_of rs q)
  | .frz xs, _, _, r, e => by
    obtain ⟨a, vs, rfl, hs, rs⟩ := r.frz_inv
    rw [pyD] at e
    cases q : pyA xs with
    | none => rw [q] at e; cases e
    | some ps => rw [q] at e; cases e; exact .lst hs (dps_of rs q)
  | .ref _, _, _, _, e => by rw [pyD] at e; cases e
  | .err _ _ _ _, _, _, _, e => by rw [pyD] at e; cases e
theorem dps_of : ∀ {ds : List D} {vs : List V} {ps : List PyData}, Rps K H ι vs ds → pyA ds = some ps → DpAll K H vs ps
  | [], _, _, r, e => by cases r; cases e; exact .nil
  | d :: ds, _, _, r, e => by
    cases r with
    | cons r rs =>
      rw [pyA] at e
      cases q : pyD d with
      | none => rw [q] at e; cases e
      | some p =>
        rw [q] at e
        cases q2 : pyA ds with
        | none => rw [q2] at e; cases e
        | some ps => rw [q2] at e; cases e; exact .cons (dp_of r q) (dps_of rs q2)
end
theorem dpS_of {S : Sto} (s : Sr K H ι S) {d : D} {v : V} {p : PyData} (r : Rp K H ι v d) (e : pyS S d = some p) : Dp K H v p := by
  cases d with
  | ref n =>
    obtain ⟨a, rfl, e2⟩ := r.ref_inv
    simp only [pyS] at e
    split at e
    · rename_i xs e3
      obtain ⟨vs, h1, h2⟩ := s.list e2 e3
      cases q : pyA xs with
      | none => rw [q] at e; cases e
      | some ps => rw [q] at e; cases e; exact .lst (.of h1) (dps_of h2 q)
    · cases e
  | _ => exact dp_of r e
end
def eqN (neg : Bool) (x y : D) (S : Sto) : R D := match pyS S x, pyS S y with
  | some p, some q => if SeqAt.shaped p = true ∧ SeqAt.shaped q = true then .ok (.bl (if neg then !(PyData.eqv p q) else PyData.eqv p q)) S else .bad
  | _, _ => .bad
/-- == (neg: !=) -/
def fEq (neg : Bool) (x y : D) (S : Sto) : R D := match x with
  | .int i => match y with
    | .int j => .ok (.bl (if neg then !decide (i = j) else decide (i = j))) S
    | .non => .ok (.bl neg) S
    | .str _ => .ok (.bl neg) S
    | _ => eqN neg x y S
  | .str i => match y with
    | .str j => .ok (.bl (if neg then !decide (i = j) else decide (i = j))) S
    | .non => .ok (.bl neg) S
    | .int _ => .ok (.bl neg) S
    | .bl _ => .ok (.bl neg) S
    | _ => eqN neg x y S
  | .bl i => match y with
    | .bl j => .ok (.bl (if neg then !decide (i = j) else decide (i = j))) S
    | .non => .ok (.bl neg) S
    | .str _ => .ok (.bl neg) S
    | _ => eqN neg x y S
  | _ => eqN neg x y S
section
variable {K : PySem.W.Frag} {X : Cx}
def rEqZ (K : PySem.W.Frag) : R2 := fun x y H Q => rEq x y H Q ∨ rEqD K x y H Q
def rNeZ (K : PySem.W.Frag) : R2 := fun x y H Q => rNe x y H Q ∨ rNeD K x y H Q
theorem oEq (hu : X.A.units + 64 < cLine) : OpR X (compareOp .Eq) (rEqZ X.K) := op_eq.or (op_eqD hu)
theorem oNe (hu : X.A.units + 64 < cLine) : OpR X (compareOp .NotEq) (rNeZ X.K) := op_ne.or (op_neD hu)
theorem eqN_ok {mg : Str → Option Value} {W : WX} {σ : L2.St} {ι : Em} {H : Hp} {S : Sto} {x y : V} {dx dy : D} {Q : VK} {neg : Bool} (s : Sr K H ι S) (rx : Rp K H ι x dx) (ry : Rp K H ι y dy) (p : Post K mg (Rp K) W σ ι H (eqN neg dx dy S) Q) :
    ∃ d e, Dp K H x d ∧ Dp K H y e ∧ SeqAt.shaped d = true ∧ SeqAt.shaped e = true ∧ Q (.bl (if neg then !(PyData.eqv d e) else PyData.eqv d e)) H := by
  unfold eqN at p
  split at p
  · rename_i d e h1 h2
    split at p
    · rename_i hs
      exact ⟨d, e, dpS_of s rx h1, dpS_of s ry h2, hs.1, hs.2, p.ret s (.bl _)⟩
    · exact p.elim
  · exact p.elim
theorem fEq_ok {mg : Str → Option Value} {W : WX} {σ : L2.St} {ι : Em} {H : Hp} {S : Sto} {x y : V} {dx dy : D} {Q : VK} {neg : Bool} (s : Sr K H ι S) (rx : Rp K H ι x dx) (ry : Rp K H ι y dy) (p : Post K mg (Rp K) W σ ι H (fEq neg dx dy S) Q) :
    (scal x y = true ∧ Q (.bl (if neg then !decide (x = y) else decide (x = y))) H) ∨ ∃ d e, Dp K H x d ∧ Dp K H y e ∧ SeqAt.shaped d = true ∧ SeqAt.shaped e = true ∧ Q (.bl (if neg then !(PyData.eqv d e) else PyData.eqv d e)) H := by
  have hF : ∀ (a b : V), a ≠ b → (if neg = true then !decide (a = b) else decide (a = b)) = neg := fun a b h => by
    rw [decide_eq_false h]; cases neg <;> rfl
  have fin : ∀ (a b : V), scal a b = true → a ≠ b → x = a → y = b → Post K mg (Rp K) W σ ι H (.ok (.bl neg) S) Q → (scal x y = true ∧ Q (.bl (if neg then !decide (x = y) else decide (x = y))) H) := fun a b h1 h2 e1 e2 p => by
    subst e1; subst e2
    exact ⟨h1, by rw [hF _ _ h2]; exact p.ret s (.bl _)⟩
  cases dx with
  | int i =>
    cases rx
    cases dy with
    | int j => cases ry; exact .inl ⟨rfl, by have q := p.ret s (.bl _); simpa using q⟩
    | non => cases ry; exact .inl (fin _ _ rfl (by simp) rfl rfl p)
    | str j => cases ry; exact .inl (fin _ _ rfl (by simp) rfl rfl p)
    | _ => exact .inr (eqN_ok s (.int i) ry p)
  | str i =>
    cases rx
    cases dy with
    | str j => cases ry; exact .inl ⟨rfl, by have q := p.ret s (.bl _); simpa using q⟩
    | non => cases ry; exact .inl (fin _ _ rfl (by simp) rfl rfl p)
    | int j => cases ry; exact .inl (fin _ _ rfl (by simp) rfl rfl p)
    | bl j => cases ry; exact .inl (fin _ _ rfl (by simp) rfl rfl p)
    | _ => exact .inr (eqN_ok s (.str i) ry p)
  | bl i =>
    cases rx
    cases dy with
    | bl j => cases ry; exact .inl ⟨rfl, by have q := p.ret s (.bl _); simpa using q⟩
    | non => cases ry; exact .inl (fin _ _ rfl (by simp) rfl rfl p)
    | str j => cases ry; exact .inl (fin _ _ rfl (by simp) rfl rfl p)
    | _ => exact .inr (eqN_ok s (.bl i) ry p)
  | _ => exact .inr (eqN_ok s rx ry p)
theorem sEq : OpS K (rEqZ K) (fEq false) := fun mg W σ ι H S x y dx dy Q s rx ry p => fEq_ok s rx ry p
theorem sNe : OpS K (rNeZ K) (fEq true) := fun mg W σ ι H S x y dx dy Q s rx ry p => fEq_ok s rx ry p
/-- flat data as a value -/
def flatD : D → Option V
  | .non => some .non
  | .bl b => some (.bl b)
  | .int i => some (.int i)
  | .str x => some (.str x)
  | _ => none
def flatA : List D → Option (List V)
  | [] => some []
  | x :: xs => (flatD x).bind fun p => (flatA xs).map fun ps => p :: ps
theorem flatD_of {H : Hp} {ι : Em} {v w : V} {d : D} (r : Rp K H ι v d) (e : flatD d = some w) : v = w ∧ flatV v = true := by
  cases r <;> simp [flatD] at e <;> subst e <;> exact ⟨rfl, rfl⟩
theorem flatA_of {H : Hp} {ι : Em} : ∀ {ds : List D} {vs ws : List V}, Rps K H ι vs ds → flatA ds = some ws → vs = ws ∧ vs.all flatV = true
  | [], _, _, r, e => by cases r; cases e; exact ⟨rfl, rfl⟩
  | d :: ds, _, _, r, e => by
    cases r with
    | cons r rs =>
      rw [flatA] at e
      cases q : flatD d with
      | none => rw [q] at e; cases e
      | some p =>
        rw [q] at e
        cases q2 : flatA ds with
        | none => rw [q2] at e; cases e
        | some ps =>
          rw [q2] at e; cases e
          obtain ⟨h1, h2⟩ := flatD_of r q
          obtain ⟨h3, h4⟩ := flatA_of rs q2
          subst h1; subst h3
          exact ⟨rfl, by rw [List.all_cons, h2, h4]; rfl⟩
/-- x in a list or tuple, flat items -/
def fIn (neg : Bool) (x y : D) (S : Sto) : R D := match seqOf S y, flatD x with
  | some ys, some v => match flatA ys with
    | some vs => .ok (.bl (if neg then !inV v vs else inV v vs)) S
    | none => .bad
  | _, _ => .bad
theorem sIn {neg : Bool} : OpS K (rIn K neg) (fIn neg) := by
  intro mg W σ ι H S x y dx dy Q s rx ry p
  unfold fIn at p
  split at p
  · rename_i ys v e1 e2
    split at p
    · rename_i vs e3
      obtain ⟨a, us, rfl, hs, rs⟩ := seq_inv s ry e1
      obtain ⟨rfl, f1⟩ := flatD_of rx e2
      obtain ⟨rfl, f2⟩ := flatA_of rs e3
      exact ⟨a, us, rfl, hs, f1, f2, p.ret s (.bl _)⟩
    · exact p.elim
  · exact p.elim
end

/-! ### isinstance -/
inductive Ty where
  | int | tup | str | bool | list
def Ty.nm : Ty → String
  | .int => "int" | .tup => "tuple" | .str => "str" | .bool => "bool" | .list => "list"
def isTy : Ty → D → Bool
  | .int, .int _ => true
  | .int, .bl _ => true
  | .bool, .bl _ => true
  | .str, .str _ => true
  | .tup, .tup _ => true
  | .list, .lst _ => true
  | .list, .frz _ => true
  | .list, .ref _ => true
  | _, _ => false
def refOk (S : Sto) : D → Bool
  | .ref n => match S[n]? with
    | some (.lst _) => true
    | none => false
  | .err _ _ _ _ => false
  | _ => true
def fIsi (t : Ty) (x : D) (S : Sto) : R D := if refOk S x = true then .ok (.bl (isTy t x)) S else .bad
def dIsi (t : Ty) (a : Den) : Den := fun env S => (a env S).bind fun x S1 => fIsi t x S1
section
variable {X : Cx} {W : WX} {a : Expr} {da : Den} {p q pos : Pos}
theorem StT.ty {K : PySem.W.Frag} {H : Hp} {a : Addr} {xs : List V} (h : StT K a xs) : TyX K H (.ref a) (.type "tuple") := by
  obtain ⟨o, its, n, e, c, _⟩ := h; exact .kTuple e c
theorem StL.ty {K : PySem.W.Frag} {H : Hp} {a : Addr} {xs : List V} (h : StL K a xs) : TyX K H (.ref a) (.type "list") := by
  obtain ⟨o, its, n, e, c, _⟩ := h; exact .kList e c
theorem isi_ok {K : PySem.W.Frag} {H : Hp} {ι : Em} {S : Sto} {v : V} {d : D} {t : Ty} (s : Sr K H ι S) (r : Rp K H ι v d) (hr : refOk S d = true) : ∃ tv, TyX K H v tv ∧ PySem.W.kitOne K tv (.type t.nm) = some (isTy t d) := by
  cases r with
  | non => exact ⟨_, .base .non, by cases t <;> exact kit_ty (by decide +kernel)⟩
  | bl b => exact ⟨_, .base (.bl b), by cases t <;> exact kit_ty (by simp only [isTy]; decide +kernel)⟩
  | int b => exact ⟨_, .base (.int b), by cases t <;> exact kit_ty (by simp only [isTy]; decide +kernel)⟩
  | str b => exact ⟨_, .base (.str b), by cases t <;> exact kit_ty (by simp only [isTy]; decide +kernel)⟩
  | tup _ h2 _ => exact ⟨_, .base (.tup h2), by cases t <;> exact kit_ty (by simp only [isTy]; decide +kernel)⟩
  | tupK h _ => exact ⟨_, h.ty, by cases t <;> exact kit_ty (by simp only [isTy]; decide +kernel)⟩
  | lst _ h2 _ => exact ⟨_, .base (.lst h2), by cases t <;> exact kit_ty (by simp only [isTy]; decide +kernel)⟩
  | frz _ h2 _ => exact ⟨_, .base (.frz h2), by cases t <;> exact kit_ty (by simp only [isTy]; decide +kernel)⟩
  | frzK h _ => exact ⟨_, h.ty, by cases t <;> exact kit_ty (by simp only [isTy]; decide +kernel)⟩
  | ref h =>
    simp only [refOk] at hr
    split at hr
    · rename_i xs e
      obtain ⟨vs, h1, _⟩ := s.list h e
      exact ⟨_, .base (.lst h1), by cases t <;> exact kit_ty (by simp only [isTy]; decide +kernel)⟩
    · cases hr
  | err _ _ _ => cases hr
theorem e_isi (t : Ty) {x : Str} (hx : x = Str.ofString t.nm) (hg : Gl X "isinstance") (hm : X.mg "isinstance" = none) (hg2 : Gl X x) (hm2 : X.mg x = none) (ha : EE X W a da)
    (hs : starEach [a, .Name x q] X.env = (false, eval a X.env) :: starEach [.Name x q] X.env := by rfl) (hs2 : starEach [.Name x q] X.env = (false, eval (.Name x q) X.env) :: starEach [] X.env := by rfl) (hpl : (backTo pos (starEach [.Name x q] X.env)).any (·.1) = false := by rfl) :
    EE X W (.Call (.Name "isinstance" p) [a, .Name x q] [] pos) (dIsi t da) := by
  have hv : bootBuiltins x = some (.type t.nm) := by subst hx; cases t <;> decide +kernel
  have hn : x ≠ "__name__" := by subst hx; cases t <;> decide
  have hd : (x == ("__debug__" : Str)) = false := by subst hx; cases t <;> decide
  refine PE.imp (pe_callB call_isi hg hm (by decide +kernel) (pa_cons ha (pa_cons (pe_bltn (v := .ty t.nm) hg2 hm2 hv rfl hn hd) pa_nil hs2) hs) (by decide) (by decide) hs hpl) fun σ H Q h => ?_
  obtain ⟨ι, env, S, s, er, p⟩ := h
  refine ⟨ι, env, S, s, er, (Post.bind (Rel' := Rp X.K) p).mono ?_⟩
  rintro x H1 ⟨ι1, dx, S1, e1, s1, r1, p1⟩
  unfold fIsi at p1
  split at p1
  · rename_i hr
    obtain ⟨tv, h1, h2⟩ := isi_ok (t := t) s1 r1 hr
    exact ⟨x, .ty t.nm, tv, .type t.nm, isTy t dx, rfl, .ty _, h1, h2, p1.ret s1 (.bl _)⟩
  · exact p1.elim
end

/-! ### built-in functions by their rules -/
def dCB (f : List D → Sto → R D) (a : DenA) : Den := fun env S => (a env S).bind fun xs S1 => f xs S1
def CbS (K : PySem.W.Frag) (r : List V → Hp → VK → Prop) (f : List D → Sto → R D) : Prop :=
  ∀ (mg : Str → Option Value) (W : WX) (σ : L2.St) (ι : Em) (H : Hp) (S : Sto) (xs : List V) (ds : List D) (Q : VK), Sr K H ι S → Rps K H ι xs ds → Post K mg (Rp K) W σ ι H (f ds S) Q → r xs H Q
section
variable {X : Cx} {W : WX} {x : Str} {p pos : Pos} {e : Expr} {es : List Expr} {da : DenA} {id T : String} {r : List V → Hp → VK → Prop} {f : List D → Sto → R D}
theorem rd_cb {K : PySem.W.Frag} {mg : Str → Option Value} {σ : L2.St} {H : Hp} {Q : VK} (hf : CbS K r f) (h : rd K mg W (dCB f da) σ H Q) : tCB r (rdA K mg W da) σ H Q := by
  obtain ⟨ι, env, S, s, er, p⟩ := h
  refine ⟨ι, env, S, s, er, (Post.bind (Rel' := Rps K) p).mono ?_⟩
  rintro x H1 ⟨ι1, dx, S1, e1, s1, r1, p1⟩
  exact hf mg W σ ι1 H1 S1 x dx Q s1 r1 p1
theorem e_cb (hc : CallR X (.builtin id) r) (hf : CbS X.K r f) (hg : Gl X x) (hm : X.mg x = none) (hv : bootBuiltins x = some (.builtin id)) (ha : AA X W (e :: es) da) (hn : x ≠ "__name__" := by decide) (hdb : (x == ("__debug__" : Str)) = false := by decide)
    (he : starEach (e :: es) X.env = (false, eval e X.env) :: starEach es X.env := by rfl) (hpl : (backTo pos (starEach es X.env)).any (·.1) = false := by rfl) : EE X W (.Call (.Name x p) (e :: es) [] pos) (dCB f da) := PE.imp (pe_callB hc hg hm hv ha hn hdb he hpl) fun _ _ _ h => rd_cb hf h
theorem e_ct (hc : CallR X (.type T) r) (hf : CbS X.K r f) (hg : Gl X x) (hm : X.mg x = none) (hv : bootBuiltins x = some (.type T)) (ha : AA X W (e :: es) da) (hn : x ≠ "__name__" := by decide) (hdb : (x == ("__debug__" : Str)) = false := by decide)
    (he : starEach (e :: es) X.env = (false, eval e X.env) :: starEach es X.env := by rfl) (hpl : (backTo pos (starEach es X.env)).any (·.1) = false := by rfl) : EE X W (.Call (.Name x p) (e :: es) [] pos) (dCB f da) := PE.imp (pe_callTy hc hg hm hv ha hn hdb he hpl) fun _ _ _ h => rd_cb hf h
theorem e_cf (hc : CallR X (.builtin id) r) (hf : CbS X.K r f) (hg : Gl X x) (hm : X.mg x = some (.builtin id)) (ha : AA X W (e :: es) da) (hdb : (x == ("__debug__" : Str)) = false := by decide)
    (he : starEach (e :: es) X.env = (false, eval e X.env) :: starEach es X.env := by rfl) (hpl : (backTo pos (starEach es X.env)).any (·.1) = false := by rfl) : EE X W (.Call (.Name x p) (e :: es) [] pos) (dCB f da) := PE.imp (pe_callBfun hc hg hm ha hdb he hpl) fun _ _ _ h => rd_cb hf h
end
def fLen (xs : List D) (S : Sto) : R D := match xs with
  | [x] => match seqOf S x with
    | some ys => .ok (.int ys.length) S
    | none => match x with
      | .str z => if Fit z.length then .ok (.int z.length) S else .bad
      | _ => .bad
  | _ => .bad
def fMax2 (xs : List D) (S : Sto) : R D := match xs with
  | [.int i, .int j] => .ok (.int (if j > i then j else i)) S
  | _ => .bad
def fMin2 (xs : List D) (S : Sto) : R D := match xs with
  | [.int i, .int j] => .ok (.int (if j < i then j else i)) S
  | _ => .bad
def fInt (xs : List D) (S : Sto) : R D := match xs with
  | [.int i] => .ok (.int i) S
  | [.bl b] => .ok (.int (if b then 1 else 0)) S
  | _ => .bad
def fAbs (xs : List D) (S : Sto) : R D := match xs with
  | [.int i] => .ok (.int (if i < 0 then -i else i)) S
  | _ => .bad
def fGcd (xs : List D) (S : Sto) : R D := match xs with
  | [.int i, .int j] => .ok (.int ((Nat.gcd i.natAbs j.natAbs : Nat) : Int)) S
  | _ => .bad
def fList (c : Bool) (xs : List D) (S : Sto) : R D := match xs with
  | [x] => match seqOf S x with
    | some ys => mkL c ys S
    | none => .bad
  | _ => .bad
def fTuple (xs : List D) (S : Sto) : R D := match xs with
  | [.tup ys] => .ok (.tup ys) S
  | [x] => match lstOf S x with
    | some ys => mkT ys S
    | none => .bad
  | _ => .bad
section
variable {K : PySem.W.Frag}
theorem rps1 {H : Hp} {ι : Em} {xs : List V} {d : D} (r : Rps K H ι xs [d]) : ∃ x, xs = [x] ∧ Rp K H ι x d := by
  cases r with | cons r rs => cases rs; exact ⟨_, rfl, r⟩
theorem rps2 {H : Hp} {ι : Em} {xs : List V} {d e : D} (r : Rps K H ι xs [d, e]) : ∃ x y, xs = [x, y] ∧ Rp K H ι x d ∧ Rp K H ι y e := by
  cases r with | cons r rs => cases rs with | cons r2 rs => cases rs; exact ⟨_, _, rfl, r, r2⟩
theorem rps3 {H : Hp} {ι : Em} {xs : List V} {d e f : D} (r : Rps K H ι xs [d, e, f]) : ∃ x y z, xs = [x, y, z] ∧ Rp K H ι x d ∧ Rp K H ι y e ∧ Rp K H ι z f := by
  cases r with | cons r rs => cases rs with | cons r2 rs => cases rs with | cons r3 rs => cases rs; exact ⟨_, _, _, rfl, r, r2, r3⟩
theorem sLen : CbS K (fun xs H Q => ∃ x n, xs = [x] ∧ LenV K x H n ∧ Q (.int n) H) fLen := by
  intro mg W σ ι H S xs ds Q s r p
  unfold fLen at p
  split at p
  · rename_i d
    obtain ⟨x, rfl, r0⟩ := rps1 r
    clear r
    split at p
    · rename_i ys e
      obtain ⟨a, vs, rfl, hs, rs⟩ := seq_inv s r0 e
      refine ⟨_, _, rfl, ?_, p.ret s (.int _)⟩
      rcases hs with hs | hs
      · exact .inl ⟨vs, hs, by rw [rs.length]⟩
      · exact .inr ⟨vs, hs, by rw [rs.length]⟩
    · cases d with
      | str z =>
        cases r0
        simp only at p
        split at p
        · rename_i hz; exact ⟨.str z, z.length, rfl, ⟨hz, rfl⟩, p.ret s (.int _)⟩
        · exact p.elim
      | _ => exact p.elim
  · exact p.elim
theorem sMax2 : CbS K (fun xs H Q => ∃ i j, xs = [.int i, .int j] ∧ Q (.int (if j > i then j else i)) H) fMax2 := by
  intro mg W σ ι H S xs ds Q s r p
  unfold fMax2 at p
  split at p
  · obtain ⟨x, y, rfl, r1, r2⟩ := rps2 r
    cases r1; cases r2; exact ⟨_, _, rfl, p.ret s (.int _)⟩
  · exact p.elim
theorem sMin2 : CbS K (fun xs H Q => ∃ i j, xs = [.int i, .int j] ∧ Q (.int (if j < i then j else i)) H) fMin2 := by
  intro mg W σ ι H S xs ds Q s r p
  unfold fMin2 at p
  split at p
  · obtain ⟨x, y, rfl, r1, r2⟩ := rps2 r
    cases r1; cases r2; exact ⟨_, _, rfl, p.ret s (.int _)⟩
  · exact p.elim
theorem sInt : CbS K (fun xs H Q => (∃ i, xs = [.int i] ∧ Q (.int i) H) ∨ ∃ k, xs = [.bl k] ∧ Q (.int (if k then 1 else 0)) H) fInt := by
  intro mg W σ ι H S xs ds Q s r p
  unfold fInt at p
  split at p
  · obtain ⟨x, rfl, r1⟩ := rps1 r
    cases r1; exact .inl ⟨_, rfl, p.ret s (.int _)⟩
  · obtain ⟨x, rfl, r1⟩ := rps1 r
    cases r1; exact .inr ⟨_, rfl, p.ret s (.int _)⟩
  · exact p.elim
theorem sAbs : CbS K (fun xs H Q => ∃ i, xs = [.int i] ∧ Q (.int (if i < 0 then -i else i)) H) fAbs := by
  intro mg W σ ι H S xs ds Q s r p
  unfold fAbs at p
  split at p
  · obtain ⟨x, rfl, r1⟩ := rps1 r
    cases r1; exact ⟨_, rfl, p.ret s (.int _)⟩
  · exact p.elim
theorem sGcd : CbS K rGcd fGcd := by
  intro mg W σ ι H S xs ds Q s r p
  unfold fGcd at p
  split at p
  · obtain ⟨x, y, rfl, r1, r2⟩ := rps2 r
    cases r1; cases r2; exact ⟨_, _, rfl, p.ret s (.int _)⟩
  · exact p.elim
theorem sList (c : Bool) : CbS K (fun xs H Q => ∃ p ys, xs = [.ref p] ∧ (SqL K H p ys ∨ SqT K H p ys) ∧ ∀ l, H l = none → Q (.ref l) (upd H l (.lst ys))) (fList c) := by
  intro mg W σ ι H S xs ds Q s r p
  unfold fList at p
  split at p
  · obtain ⟨x, rfl, r0⟩ := rps1 r
    clear r
    split at p
    · rename_i ys e
      obtain ⟨a, vs, rfl, hs, rs⟩ := seq_inv s r0 e
      exact ⟨a, vs, rfl, hs, (p.mkL s rs).2⟩
    · exact p.elim
  · exact p.elim
theorem sTuple : CbS K (fun xs H Q => ∃ p ys, xs = [.ref p] ∧ ((SqL K H p ys ∧ ∀ l, H l = none → Q (.ref l) (upd H l (.tup ys))) ∨ (SqT K H p ys ∧ Q (.ref p) H))) fTuple := by
  intro mg W σ ι H S xs ds Q s r p
  unfold fTuple at p
  split at p
  · obtain ⟨x, rfl, r0⟩ := rps1 r
    clear r
    obtain ⟨a, vs, rfl, hs, rs⟩ := r0.tup_inv
    exact ⟨a, vs, rfl, .inr ⟨hs, p.ret s r0⟩⟩
  · obtain ⟨x, rfl, r0⟩ := rps1 r
    clear r
    split at p
    · rename_i ys e
      obtain ⟨a, vs, rfl, hs, rs⟩ := lst_inv s r0 e
      exact ⟨a, vs, rfl, .inl ⟨hs, (p.mkT s rs).2⟩⟩
    · exact p.elim
  · exact p.elim
end
end
end Z
end

section
set_option Elab.async false
set_option linter.all false
set_option maxRecDepth 100000
set_option maxHeartbeats 1000000
namespace Z
noncomputable section
open PySem PySem.Spec PyProof.Rows L2

/-! ### statements -/
inductive F where
  | nx (e : Env) (S : Sto)
  | rt (d : D) (S : Sto)
  | bk (e : Env) (S : Sto)
  | ct (e : Env) (S : Sto)
  | ex (c : Str) (fs : List (Str × D)) (e : Env) (S : Sto)
  | bad
abbrev SDen := Env → Sto → F
def R.lift {α : Type} (r : R α) (e : Env) (k : α → Sto → F) : F := match r with
  | .ok a S => k a S
  | .ex c fs S => .ex c fs e S
  | .bad => .bad
def F.then (f : F) (k : SDen) : F := match f with
  | .nx e S => k e S
  | f => f
def PostS (K : PySem.W.Frag) (mg : Str → Option Value) (W : WX) (ι : Em) (H : Hp) (f : F) (Dn : Ends) : Prop := match f with
  | .nx e S' => ∀ ι' H' σ', Ext ι H ι' H' → Sr K H' ι' S' → Er K H' ι' σ' e → Dn.nx σ' H'
  | .rt d S' => ∀ ι' H' v, Ext ι H ι' H' → Sr K H' ι' S' → Rp K H' ι' v d → Dn.rt v H'
  | .bk e S' => ∀ ι' H' σ', Ext ι H ι' H' → Sr K H' ι' S' → Er K H' ι' σ' e → Dn.bk σ' H'
  | .ct e S' => ∀ ι' H' σ', Ext ι H ι' H' → Sr K H' ι' S' → Er K H' ι' σ' e → Dn.ct σ' H'
  | .ex c fs e S' => ∀ ι' H' σ' dd C gs, Ext ι H ι' H' → Sr K H' ι' S' → Er K H' ι' σ' e → mg c = some (.ref C) → H' dd = some (.xd ((fs.map (·.1)).zip gs)) → ¬ ι'.has dd → Rps K H' ι' gs (fs.map (·.2)) → W (.ref C) (some dd) σ' H'
  | .bad => False
def rdS (K : PySem.W.Frag) (mg : Str → Option Value) (W : WX) (d : SDen) : TS := fun Dn σ H => ∃ ι env S, Sr K H ι S ∧ Er K H ι σ env ∧ PostS K mg W ι H (d env S) Dn
section
variable {K : PySem.W.Frag} {mg : Str → Option Value} {W : WX} {σ : L2.St} {ι ι' : Em} {H H' : Hp} {S : Sto} {Dn : Ends}
theorem PostS.ext {f : F} (h : PostS K mg W ι H f Dn) (e : Ext ι H ι' H') (s : Sr K H' ι' S) : PostS K mg W ι' H' f Dn := by
  cases f with
  | nx e' S' => exact fun ι2 H2 σ' e2 s2 r2 => h ι2 H2 σ' (e.tr s e2) s2 r2
  | rt e' S' => exact fun ι2 H2 σ' e2 s2 r2 => h ι2 H2 σ' (e.tr s e2) s2 r2
  | bk e' S' => exact fun ι2 H2 σ' e2 s2 r2 => h ι2 H2 σ' (e.tr s e2) s2 r2
  | ct e' S' => exact fun ι2 H2 σ' e2 s2 r2 => h ι2 H2 σ' (e.tr s e2) s2 r2
  | ex c fs e' S' => exact fun ι2 H2 σ' dd C gs e2 s2 r2 => h ι2 H2 σ' dd C gs (e.tr s e2) s2 r2
  | bad => exact h
/-- an expression's result, then what is done with it -/
theorem PostS.lift {α β : Type} {Rel : Hp → Em → β → α → Prop} {r : R α} {env : Env} {k : α → Sto → F} (h : PostS K mg W ι H (r.lift env k) Dn) (er : Er K H ι σ env) :
    Post K mg Rel W σ ι H r (fun x H1 => ∃ ι1 a S1, Ext ι H ι1 H1 ∧ Sr K H1 ι1 S1 ∧ Rel H1 ι1 x a ∧ PostS K mg W ι1 H1 (k a S1) Dn) := by
  cases r with
  | ok a S' => exact fun ι2 H2 v e2 s2 r2 => ⟨ι2, a, S', e2, s2, r2, PostS.ext h e2 s2⟩
  | ex c fs S' => exact fun ι2 H2 dd C gs e2 s2 hc hd hn hl => h ι2 H2 σ dd C gs e2 s2 (er.ext e2) hc hd hn hl
  | bad => exact h
theorem PostS.then {f : F} {k : SDen} (h : PostS K mg W ι H (f.then k) Dn) : PostS K mg W ι H f { Dn with nx := rdS K mg W k Dn } := by
  cases f with
  | nx e' S' => exact fun ι2 H2 σ' e2 s2 r2 => ⟨ι2, e', S', s2, r2, PostS.ext h e2 s2⟩
  | rt e' S' => exact h
  | bk e' S' => exact h
  | ct e' S' => exact h
  | ex c fs e' S' => exact h
  | bad => exact h
theorem PostS.nx {env : Env} (h : PostS K mg W ι H (.nx env S) Dn) (s : Sr K H ι S) (r : Er K H ι σ env) : Dn.nx σ H := h ι H σ Ext.refl s r
end
def sSeq (a b : SDen) : SDen := fun env S => (a env S).then b
def sNil : SDen := fun env S => .nx env S
def sSet (i : Nat) (d : Den) : SDen := fun env S => (d env S).lift env fun x S1 => .nx (env.set i (some x)) S1
def sRet (d : Den) : SDen := fun env S => (d env S).lift env fun x S1 => .rt x S1
def sDrop (d : Den) : SDen := fun env S => (d env S).lift env fun _ S1 => .nx env S1
def sIf (t : DenT) (a b : SDen) : SDen := fun env S => (t env S).lift env fun c S1 => if c then a env S1 else b env S1
def sBk : SDen := fun env S => .bk env S
def sCt : SDen := fun env S => .ct env S
section
variable {X : Cx} {W : WX} {e a b : Expr} {d da db : Den} {st : Stmt} {sts sts2 : List Stmt} {ds ds2 : SDen} {t : DenT} {pos : Pos}
abbrev SS (X : Cx) (W : WX) (st : Stmt) (d : SDen) : Prop := PS X st (rdS X.K X.mg W d)
abbrev SSs (X : Cx) (W : WX) (st : List Stmt) (d : SDen) : Prop := PSs X st (rdS X.K X.mg W d)
theorem ss_nil : SSs X W [] sNil := PSs.imp pss_nil fun Dn σ H h => by
  obtain ⟨ι, env, S, s, er, p⟩ := h
  exact p.nx s er
theorem ss_cons (h1 : SS X W st ds) (h2 : SSs X W sts ds2) : SSs X W (st :: sts) (sSeq ds ds2) := PSs.imp (pss_cons h1 h2) fun Dn σ H h => by
  obtain ⟨ι, env, S, s, er, p⟩ := h
  exact ⟨ι, env, S, s, er, p.then⟩
theorem ss_one (h1 : SS X W st ds) : SSs X W [st] ds := pss_one h1
theorem s_pass : SS X W (.Pass pos) sNil := PS.imp ps_pass fun Dn σ H h => by
  obtain ⟨ι, env, S, s, er, p⟩ := h
  exact p.nx s er
theorem s_bk : SS X W (.Break pos) sBk := PS.imp ps_break fun Dn σ H h => by
  obtain ⟨ι, env, S, s, er, p⟩ := h
  exact p ι H σ Ext.refl s er
theorem s_ct : SS X W (.Continue pos) sCt := PS.imp ps_continue fun Dn σ H h => by
  obtain ⟨ι, env, S, s, er, p⟩ := h
  exact p ι H σ Ext.refl s er
theorem s_ret (h : EE X W e d) : SS X W (.Return (some e) pos) (sRet d) := PS.imp (ps_ret h) fun Dn σ H h => by
  obtain ⟨ι, env, S, s, er, p⟩ := h
  refine ⟨ι, env, S, s, er, (PostS.lift (Rel := Rp X.K) p er).mono ?_⟩
  rintro x H1 ⟨ι1, dx, S1, e1, s1, r1, p1⟩
  exact p1 ι1 H1 x Ext.refl s1 r1
theorem s_expr (h : EE X W e d) (hs : swapsWith e none pos.line X.env = pure false := by rfl) : SS X W (.Expr e pos) (sDrop d) := PS.imp (ps_expr h hs) fun Dn σ H h => by
  obtain ⟨ι, env, S, s, er, p⟩ := h
  refine ⟨ι, env, S, s, er, (PostS.lift (Rel := Rp X.K) p er).mono ?_⟩
  rintro x H1 ⟨ι1, dx, S1, e1, s1, r1, p1⟩
  exact p1.nx s1 (er.ext e1)
theorem s_set {i : Nat} {x : Str} {pos' : Pos} (hN : X.N.Nodup) (h : EE X W e d) (hi : X.N[i]? = some x := by rfl) (hx : Loc X.env.scope x := by first | exact Or.inl rfl | exact Or.inr rfl) (hs : swapsWith e (some (.Name x pos')) pos.line X.env = pure false := by rfl)
    (hf : X.fn x = true ∨ X.env.scope.names.lookup x = some .local := by first | exact .inl rfl | exact .inr rfl) : SS X W (.Assign [.Name x pos'] e pos) (sSet i d) := PS.imp (ps_set hN hi hx h hs hf) fun Dn σ H h => by
  obtain ⟨ι, env, S, s, er, p⟩ := h
  refine ⟨ι, env, S, s, er, (PostS.lift (Rel := Rp X.K) p er).mono ?_⟩
  rintro x H1 ⟨ι1, dx, S1, e1, s1, r1, p1⟩
  exact p1.nx s1 ((er.ext e1).set r1)
theorem s_if (hc : TT' X W e t) (ha : SSs X W sts ds) (hb : SSs X W sts2 ds2) : SS X W (.If e sts sts2 pos) (sIf t ds ds2) := PS.imp (ps_if hc ha hb) fun Dn σ H h => by
  obtain ⟨ι, env, S, s, er, p⟩ := h
  refine ⟨ι, env, S, s, er, (PostS.lift (Rel := fun _ _ b c => b = c) p er).mono ?_⟩
  rintro x H1 ⟨ι1, dx, S1, e1, s1, rfl, p1⟩
  cases x with
  | true => rw [if_pos rfl]; exact ⟨ι1, env, S1, s1, er.ext e1, p1⟩
  | false => rw [if_neg Bool.false_ne_true]; exact ⟨ι1, env, S1, s1, er.ext e1, p1⟩
end

/-! ### targets -/
structure Tg where
  run : D → Env → Option Env
  sl : List Nat
def gN (i : Nat) : Tg := ⟨fun x env => some (env.set i (some x)), [i]⟩
def gAll : List Tg → List D → Env → Option Env
  | [], [], env => some env
  | t :: ts, x :: xs, env => (t.run x env).bind fun env => gAll ts xs env
  | _, _, _ => none
def slAll : List Tg → List Nat
  | [] => []
  | t :: ts => t.sl ++ slAll ts
def gT (ts : List Tg) : Tg := ⟨fun x env => match x with
  | .tup xs => gAll ts xs env
  | _ => none, slAll ts⟩
def setsV (σ : L2.St) : List (Nat × V) → L2.St
  | [] => σ
  | (i, v) :: r => setsV (σ.set i (some v)) r
theorem setsV_app (σ : L2.St) : ∀ (a b : List (Nat × V)), setsV σ (a ++ b) = setsV (setsV σ a) b
  | [], _ => rfl
  | (i, v) :: r, b => by rw [List.cons_append]; exact setsV_app _ r b
def rdG (K : PySem.W.Frag) (t : Tg) : TG := fun v σ H Q => ∃ ι env x env', Er K H ι σ env ∧ Rp K H ι v x ∧ t.run x env = some env' ∧ ∀ ws : List (Nat × V), (∀ p ∈ ws, p.1 ∈ t.sl) → Er K H ι (setsV σ ws) env' → Q (setsV σ ws) H
def rdGs (K : PySem.W.Frag) (ts : List Tg) : TGs := fun vs σ H Q => ∃ ι env xs env', Er K H ι σ env ∧ Rps K H ι vs xs ∧ gAll ts xs env = some env' ∧ ∀ ws : List (Nat × V), (∀ p ∈ ws, p.1 ∈ slAll ts) → Er K H ι (setsV σ ws) env' → Q (setsV σ ws) H
section
variable {X : Cx} {pos : Pos}
abbrev GG (X : Cx) (e : Expr) (t : Tg) : Prop := PG X e (rdG X.K t)
abbrev GGs (X : Cx) (e : List Expr) (t : List Tg) : Prop := PGs X e (rdGs X.K t)
theorem PG.imp {e : Expr} {t t' : TG} (h : PG X e t) (f : ∀ v σ H Q, t' v σ H Q → t v σ H Q) : PG X e t' := ⟨fun pins s σ H v u Q I r q => h.run pins s σ H v u Q I r (f v σ H Q q)⟩
theorem PGs.imp {e : List Expr} {t t' : TGs} (h : PGs X e t) (f : ∀ v σ H Q, t' v σ H Q → t v σ H Q) : PGs X e t' := ⟨fun pins s σ H v u Q I r q => h.run pins s σ H v u Q I r (f v σ H Q q)⟩
theorem g_n (i : Nat) {x : Str} (hN : X.N.Nodup) (hi : X.N[i]? = some x := by rfl) (hx : Loc X.env.scope x := by first | exact Or.inl rfl | exact Or.inr rfl) (hf : X.fn x = true ∨ X.env.scope.names.lookup x = some .local := by first | exact .inl rfl | exact .inr rfl) : GG X (.Name x pos) (gN i) :=
  PG.imp (pg_name hN hi hx hf) fun v σ H Q h => by
    obtain ⟨ι, env, x, env', er, r, e, q⟩ := h
    cases e
    exact q [(i, v)] (by simp [gN]) (er.set r)
theorem gs_nil : GGs X [] [] := PGs.imp pgs_nil fun v σ H Q h => by
  obtain ⟨ι, env, xs, env', er, r, e, q⟩ := h
  cases xs with
  | nil => cases r; cases e; exact ⟨rfl, q [] (by simp) er⟩
  | cons x xs => cases e
theorem gs_cons {e : Expr} {es : List Expr} {t : Tg} {ts : List Tg} (h1 : GG X e t) (h2 : GGs X es ts) (hs : (assignEach (e :: es) X.env).map (·.2) = assign e X.env :: (assignEach es X.env).map (·.2) := by rfl) : GGs X (e :: es) (t :: ts) := PGs.imp (pgs_cons h1 h2 hs) fun v σ H Q h => by
  obtain ⟨ι, env, xs, env', er, r, e, q⟩ := h
  cases xs with
  | nil => cases e
  | cons x xs =>
    cases r with
    | cons r rs =>
      cases q1 : t.run x env with
      | none => rw [gAll, q1] at e; cases e
      | some env1 =>
        rw [gAll, q1] at e
        refine ⟨_, _, rfl, ι, env, x, env1, er, r, q1, fun ws hw er' => ⟨ι, env1, xs, env', er', rs, e, fun us hu er2 => ?_⟩⟩
        have e3 := setsV_app σ ws us
        rw [← e3] at er2 ⊢
        exact q (ws ++ us) (fun p hp => by
          rcases List.mem_append.mp hp with hp | hp
          · exact List.mem_append_left _ (hw p hp)
          · exact List.mem_append_right _ (hu p hp)) er2
theorem gAll_len : ∀ {ts : List Tg} {xs : List D} {env env' : Env}, gAll ts xs env = some env' → xs.length = ts.length
  | [], [], _, _, _ => rfl
  | t :: ts, x :: xs, env, env', e => by
    cases q1 : t.run x env with
    | none => rw [gAll, q1] at e; cases e
    | some env1 => rw [gAll, q1] at e; simp [gAll_len (ts := ts) (xs := xs) e]
  | [], x :: xs, _, _, e => by cases e
  | t :: ts, [], _, _, e => by cases e
theorem g_t {es : List Expr} {k : Nat} {ts : List Tg} (hc : X.calm = true) (h : GGs X es ts) (hn : (assignEach es X.env).length = ts.length := by rfl) (hst : (assignEach es X.env).findIdx? (·.1) = none := by rfl) : GG X (.Tuple es k pos) (gT ts) :=
  PG.imp (pg_tup (n := ts.length) hc h hn hst) fun v σ H Q h => by
    obtain ⟨ι, env, x, env', er, r, e, q⟩ := h
    cases x with
    | tup xs =>
      obtain ⟨a, vs, rfl, hs, rs⟩ := r.tup_inv
      exact ⟨a, vs, rfl, hs, by rw [rs.length]; exact gAll_len e, ι, env, xs, env', er, rs, e, q⟩
    | _ => cases e
end
/-- target = e -/
def sAsg (t : Tg) (d : Den) : SDen := fun env S => (d env S).lift env fun x S1 => match t.run x env with
  | some env' => .nx env' S1
  | none => .bad
/-- xs[i] = e of a list that is a cell -/
def sPut (o i d : Den) : SDen := fun env S => (d env S).lift env fun x S1 => (o env S1).lift env fun l S2 => (i env S2).lift env fun j S3 => match l, j with
  | .ref n, .int k => match S3[n]? with
    | some (.lst xs) => match ixN xs.length k with
      | some j => .nx env (S3.set n (.lst (xs.set j x)))
      | none => .bad
    | none => .bad
  | _, _ => .bad
section
variable {X : Cx} {W : WX} {tg e o i : Expr} {d dd di : Den} {t : Tg} {pos : Pos}
theorem s_asg (h : EE X W e d) (hg : GG X tg t) (hs : swapsWithSole [tg] e pos.line X.env = pure false := by rfl) (hw : swappedStores [tg] e X.env = pure none := by rfl) (h1 : (assignEach [tg] X.env).map (·.2) = [assign tg X.env] := by rfl) : SS X W (.Assign [tg] e pos) (sAsg t d) := PS.imp (ps_asg h hg hs hw h1) fun Dn σ H h => by
  obtain ⟨ι, env, S, s, er, p⟩ := h
  refine ⟨ι, env, S, s, er, (PostS.lift (Rel := Rp X.K) p er).mono ?_⟩
  rintro x H1 ⟨ι1, dx, S1, e1, s1, r1, p1⟩
  split at p1
  · rename_i env' e2
    exact ⟨ι1, env, dx, env', er.ext e1, r1, e2, fun ws _ er' => p1.nx s1 er'⟩
  · exact p1.elim
theorem s_put {tpos : Pos} (hg : PG X (.Subscript o i tpos) (gSub (rd X.K X.mg W dd) (rd X.K X.mg W di) rSetL)) (h : EE X W e d) (h1 : (assignEach [.Subscript o i tpos] X.env).map (·.2) = [assign (.Subscript o i tpos) X.env])
    (hs : swapsWithSole [.Subscript o i tpos] e pos.line X.env = pure false := by rfl) (hw : swappedStores [.Subscript o i tpos] e X.env = pure none := by rfl) :
    SS X W (.Assign [.Subscript o i tpos] e pos) (sPut dd di d) := PS.imp (ps_asg h hg hs hw h1) fun Dn σ H h => by
  obtain ⟨ι, env, S, s, er, p⟩ := h
  refine ⟨ι, env, S, s, er, (PostS.lift (Rel := Rp X.K) p er).mono ?_⟩
  rintro x H1 ⟨ι1, dx, S1, e1, s1, r1, p1⟩
  have er1 := er.ext e1
  refine ⟨ι1, env, S1, s1, er1, (PostS.lift (Rel := Rp X.K) p1 er1).mono ?_⟩
  rintro l H2 ⟨ι2, dl, S2, e2, s2, r2, p2⟩
  have er2 := er1.ext e2
  refine ⟨ι2, env, S2, s2, er2, (PostS.lift (Rel := Rp X.K) p2 er2).mono ?_⟩
  rintro j H3 ⟨ι3, dj, S3, e3, s3, r3, p3⟩
  have er3 := er2.ext e3
  split at p3
  · rename_i n k
    cases r3
    obtain ⟨a, rfl, ea⟩ := (r2.ext e3).ref_inv
    split at p3
    · rename_i xs e4
      split at p3
      · rename_i m e5
        obtain ⟨vs, h1, h2⟩ := s3.list ea e4
        refine ⟨a, vs, k, m, rfl, rfl, h1, by rw [h2.length]; exact e5, ?_⟩
        have hp : Ext ι3 H3 ι3 (upd H3 a (.lst (vs.set m x))) := Ext.put ea
        exact p3 ι3 _ σ hp (s3.put ea (h2.set m ((r1.ext e2).ext e3))) (er3.ext hp)
      · exact p3.elim
    · exact p3.elim
  · exact p3.elim
end

/-! ### what is walked -/
structure ItOk (K : PySem.W.Frag) (J : It) (xs : List D) (g : Sto → Prop) (ι : Em) (H : Hp) : Prop where
  go : ∀ (ι2 : Em) (H2 : Hp) (S2 : Sto) (i : Nat) (x : D), Ext ι H ι2 H2 → Sr K H2 ι2 S2 → g S2 → xs[i]? = some x → J.go i H2 ∧ ∀ v H3, J.yld i H2 v H3 → Ext ι2 H2 ι2 H3 ∧ Sr K H3 ι2 S2 ∧ Rp K H3 ι2 v x
  stop : ∀ (ι2 : Em) (H2 : Hp) (S2 : Sto), Ext ι H ι2 H2 → Sr K H2 ι2 S2 → g S2 → J.stop xs.length H2
abbrev DenI := Env → Sto → R (List D × (Sto → Prop))
def rdI (K : PySem.W.Frag) (mg : Str → Option Value) (W : WX) (d : DenI) : TI := fun σ H Q => ∃ ι env S, Sr K H ι S ∧ Er K H ι σ env ∧ Post K mg (fun H1 ι1 J a => ItOk K J a.1 a.2 ι1 H1) W σ ι H (d env S) Q
section
variable {X : Cx} {W : WX} {tg l e : Expr} {tl d : Den} {pos p : Pos}
abbrev II (X : Cx) (W : WX) (tg e : Expr) (d : DenI) : Prop := PI X tg e (rdI X.K X.mg W d)
theorem PI.imp {t t' : TI} (h : PI X tg e t) (f : ∀ σ H R, t' σ H R → t σ H R) : PI X tg e t' := ⟨fun pins s σ H R I q => h.run pins s σ H R I (f σ H R q)⟩
/-- what is read of a list or tuple while it stands -/
def still (x : D) (xs : List D) (S : Sto) : Prop := match x with
  | .ref n => S[n]? = some (.lst xs)
  | _ => True
theorem still_tup {ys xs : List D} {S : Sto} : still (.tup ys) xs S = True := rfl
theorem still_lst {ys xs : List D} {S : Sto} : still (.lst ys) xs S = True := rfl
theorem still_frz {ys xs : List D} {S : Sto} : still (.frz ys) xs S = True := rfl
theorem still_ref {n : Nat} {xs : List D} {S : Sto} : still (.ref n) xs S = (S[n]? = some (.lst xs)) := rfl
def asSeq (x : D) (S : Sto) : R (List D × (Sto → Prop)) := match seqOf S x with
  | some xs => .ok (xs, still x xs) S
  | none => .bad
def iSeq (d : Den) : DenI := fun env S => (d env S).bind asSeq
/-- the walked list or tuple of a value, later on -/
theorem still_inv {K : PySem.W.Frag} {ι : Em} {H : Hp} {S S1 : Sto} {v : V} {x : D} {xs : List D} (s : Sr K H ι S) (r : Rp K H ι v x) (e0 : seqOf S1 x = some xs) (g : still x xs S) : ∃ a vs, v = .ref a ∧ (SqL K H a vs ∨ SqT K H a vs) ∧ Rps K H ι vs xs := by
  refine seq_inv s r ?_
  cases x with
  | ref n => simp only [still] at g; simp only [seqOf, g]
  | _ => exact e0
/-- lists stay lists, tuples tuples -/
def isT : D → Bool
  | .tup _ => true
  | _ => false
theorem still_L {K : PySem.W.Frag} {ι : Em} {H : Hp} {S S1 : Sto} {v : V} {x : D} {xs : List D} (s : Sr K H ι S) (r : Rp K H ι v x) (e0 : seqOf S1 x = some xs) (g : still x xs S) (h : isT x = false) : ∃ a vs, v = .ref a ∧ SqL K H a vs ∧ Rps K H ι vs xs := by
  refine lst_inv s r ?_
  cases x with
  | ref n => simp only [still] at g; simp only [lstOf, g]
  | tup ys => cases h
  | _ => exact e0
theorem walk_ok {K : PySem.W.Frag} {J : It} {n : Nat} {G : Hp → Prop} {Y : Nat → Hp → V → Hp → Prop} {xs : List D} {g : Sto → Prop} {ι : Em} {H : Hp} (w : Walk J n G Y) (hn : n = xs.length)
    (hG : ∀ ι2 H2 S2, Ext ι H ι2 H2 → Sr K H2 ι2 S2 → g S2 → G H2)
    (hY : ∀ ι2 H2 S2 i x v H3, Ext ι H ι2 H2 → Sr K H2 ι2 S2 → g S2 → xs[i]? = some x → Y i H2 v H3 → Ext ι2 H2 ι2 H3 ∧ Sr K H3 ι2 S2 ∧ Rp K H3 ι2 v x) : ItOk K J xs g ι H := by
  subst hn
  refine ⟨fun ι2 H2 S2 i x e s hg hx => ?_, fun ι2 H2 S2 e s hg => w.stops H2 (hG ι2 H2 S2 e s hg)⟩
  have hi : i < xs.length := (List.getElem?_eq_some_iff.mp hx).1
  have q := hG ι2 H2 S2 e s hg
  exact ⟨w.goes i H2 hi q, fun v H3 y => hY ι2 H2 S2 i x v H3 e s hg hx (w.yields i H2 v H3 hi q y)⟩
/-- the list or tuple that e gives -/
def iEach (K : PySem.W.Frag) (tl : TE) : TI := fun σ H R => tl σ H fun x H1 => ∃ a, x = .ref a ∧ (((∃ xs, SqL K H1 a xs) ∧ R (Itl K a) H1) ∨ ((∃ xs, SqT K H1 a xs) ∧ R (Itt K a) H1))
theorem pi_each {tl : TE} (hl : PE X l tl) : PI X tg l (iEach X.K tl) := by
  refine ⟨fun pins s σ H R I h => thn (hl.run pins s σ H _ I h) fun v s1 ⟨x, H1, I1, r1, q1⟩ => ?_⟩
  obtain ⟨a, rfl, q⟩ := q1
  cases r1
  have fresh : ∀ b ∈ [s1.heap.objs.size], FpOk X pins H1 b := fun b hb => by
    cases List.mem_singleton.mp hb
    exact I1.fpOk (Nat.le_refl _) (I1.hok.fresh (Nat.le_refl _))
  rcases q with ⟨⟨xs, hq⟩, q⟩ | ⟨⟨xs, hq⟩, q⟩
  · obtain ⟨its, rv, p, hz⟩ := I1.list hq
    exact wpAny_pyIter_list p.isList
      ⟨s1.heap.objs.size, [s1.heap.objs.size], _, _, H1, rfl, I1.kept (t' := s1.toks) (fun b o e => Heap.get?_push_of_some _ e), turn_list a _, ⟨_, Heap.get?_push_size _ rfl, rfl, rfl⟩, fresh, q⟩
  · obtain ⟨its, rv, p, hz⟩ := I1.tuple hq
    exact wpAny_pyIter_tuple (show s1.heap.IsTuple a its.toArray from p)
      ⟨s1.heap.objs.size, [s1.heap.objs.size], _, _, H1, rfl, I1.kept (t' := s1.toks) (fun b o e => Heap.get?_push_of_some _ e), turn_tuple a _, ⟨_, Heap.get?_push_size _ rfl, rfl, rfl⟩, fresh, q⟩
theorem i_seq (hl : EE X W l tl) : II X W tg l (iSeq tl) := PI.imp (pi_each hl) fun σ H R h => by
  obtain ⟨ι, env, S, s, er, p⟩ := h
  refine ⟨ι, env, S, s, er, (Post.bind (Rel' := Rp X.K) p).mono ?_⟩
  rintro x H1 ⟨ι1, dx, S1, e1, s1, r1, p1⟩
  unfold asSeq at p1
  split at p1
  · rename_i xs e0
    cases ht : isT dx with
    | false =>
      have g0 : still dx xs S1 := by
        cases dx with
        | ref n =>
          simp only [seqOf] at e0
          split at e0
          · rename_i ys e5; cases e0; exact e5
          · cases e0
        | _ => trivial
      obtain ⟨a, vs, rfl, hs, rs⟩ := still_L s1 r1 e0 g0 ht
      have hw : ∀ ι2 H2 S2, Ext ι1 H1 ι2 H2 → Sr X.K H2 ι2 S2 → still dx xs S2 → ∃ ws, SqL X.K H2 a ws ∧ Rps X.K H2 ι2 ws xs := fun ι2 H2 S2 e2 s2 g2 => by
        obtain ⟨b, ws, e3, h3, r3⟩ := still_L s2 (r1.ext e2) e0 g2 ht
        cases e3; exact ⟨ws, h3, r3⟩
      refine ⟨a, rfl, .inl ⟨⟨vs, hs⟩, p1 ι1 H1 _ Ext.refl s1 ⟨fun ι2 H2 S2 i y e2 s2 g2 hy => ?_, fun ι2 H2 S2 e2 s2 g2 => ?_⟩⟩⟩
      · obtain ⟨ws, h3, r3⟩ := hw ι2 H2 S2 e2 s2 g2
        obtain ⟨v, hv, rv⟩ := r3.get hy
        refine ⟨⟨ws, v, h3, hv⟩, fun u H3 yy => ?_⟩
        obtain ⟨rfl, hu⟩ := yy
        have := hu ws h3
        rw [hv] at this; cases this
        exact ⟨Ext.refl, s2, rv⟩
      · obtain ⟨ws, h3, r3⟩ := hw ι2 H2 S2 e2 s2 g2
        exact ⟨ws, h3, by rw [r3.length]; exact Nat.le_refl _⟩
    | true =>
      cases dx with
      | tup ys =>
        cases e0
        obtain ⟨a, vs, rfl, hs, rs⟩ := r1.tup_inv
        have hw : ∀ ι2 H2 S2, Ext ι1 H1 ι2 H2 → Sr X.K H2 ι2 S2 → ∃ ws, SqT X.K H2 a ws ∧ Rps X.K H2 ι2 ws xs := fun ι2 H2 S2 e2 s2 => by
          obtain ⟨b, ws, e3, h3, r3⟩ := (r1.ext e2).tup_inv
          cases e3; exact ⟨ws, h3, r3⟩
        refine ⟨a, rfl, .inr ⟨⟨vs, hs⟩, p1 ι1 H1 _ Ext.refl s1 ⟨fun ι2 H2 S2 i y e2 s2 g2 hy => ?_, fun ι2 H2 S2 e2 s2 g2 => ?_⟩⟩⟩
        · obtain ⟨ws, h3, r3⟩ := hw ι2 H2 S2 e2 s2
          obtain ⟨v, hv, rv⟩ := r3.get hy
          refine ⟨⟨ws, v, h3, hv⟩, fun u H3 yy => ?_⟩
          obtain ⟨rfl, hu⟩ := yy
          have := hu ws h3
          rw [hv] at this; cases this
          exact ⟨Ext.refl, s2, rv⟩
        · obtain ⟨ws, h3, r3⟩ := hw ι2 H2 S2 e2 s2
          exact ⟨ws, h3, by rw [r3.length]; exact Nat.le_refl _⟩
      | _ => cases ht
  · exact p1.elim
/-- range(n), range(m, n) -/
def rngD (lo : Int) (n : Nat) : List D := (List.range n).map fun (i : Nat) => .int (lo + (i : Int))
def big : Int := 4611686018427387904
def Rok (i : Int) : Prop := -big ≤ i ∧ i < big
noncomputable instance (i : Int) : Decidable (Rok i) := Classical.propDecidable _
def fRng1 (xs : List D) (S : Sto) : R (List D × (Sto → Prop)) := match xs with
  | [.int j] => if Rok j then .ok (rngD 0 j.toNat, fun _ => True) S else .bad
  | _ => .bad
def fRng2 (xs : List D) (S : Sto) : R (List D × (Sto → Prop)) := match xs with
  | [.int i, .int j] => if Rok i ∧ Rok j then .ok (rngD i (j - i).toNat, fun _ => True) S else .bad
  | _ => .bad
def iRng1 (d : DenA) : DenI := fun env S => (d env S).bind fRng1
def iRng2 (d : DenA) : DenI := fun env S => (d env S).bind fRng2
theorem rng_ok {K : PySem.W.Frag} {lo : Int} {n : Nat} {ι : Em} {H : Hp} : ItOk K (Itr lo n) (rngD lo n) (fun _ => True) ι H := by
  refine ⟨fun ι2 H2 S2 i x e2 s2 _ hx => ?_, fun ι2 H2 S2 _ _ _ => by show n ≤ _; simp [rngD]⟩
  have hi : i < n := by
    have := (List.getElem?_eq_some_iff.mp hx).1
    simpa [rngD] using this
  refine ⟨hi, fun v H3 y => ?_⟩
  obtain ⟨rfl, rfl⟩ := y
  refine ⟨Ext.refl, s2, ?_⟩
  unfold rngD at hx
  rw [List.getElem?_map, List.getElem?_range hi] at hx
  cases hx
  exact .int _
theorem big_eq : big = 2 ^ 62 := by decide
theorem rd_rng1 {K : PySem.W.Frag} {mg : Str → Option Value} {da : DenA} {σ : L2.St} {H : Hp} {R : It → Hp → Prop} (h : rdI K mg W (iRng1 da) σ H R) : L2.iRng1 (rdA K mg W da) σ H R := by
  obtain ⟨ι, env, S, s, er, q⟩ := h
  refine ⟨ι, env, S, s, er, (Post.bind (Rel' := Rps K) q).mono ?_⟩
  rintro x H1 ⟨ι1, dx, S1, e1, s1, r1, p1⟩
  unfold fRng1 at p1
  split at p1
  · rename_i j
    obtain ⟨v, rfl, r⟩ := rps1 r1
    cases r
    split at p1
    · rename_i hj
      unfold Rok at hj
      rw [big_eq] at hj
      exact ⟨j, rfl, hj.1, hj.2, p1 ι1 H1 _ Ext.refl s1 rng_ok⟩
    · exact p1.elim
  · exact p1.elim
theorem i_rng1 {a : Expr} {da : DenA} (hg : Gl X "range") (hm : X.mg "range" = none) (ha : AA X W [a] da) (hs : starEach [a] X.env = [(false, eval a X.env)] := by rfl) : II X W tg (.Call (.Name "range" p) [a] [] pos) (iRng1 da) := PI.imp (pi_range1 hg hm ha hs) fun _ _ _ h => rd_rng1 h
theorem i_rng2 {a b : Expr} {da : DenA} (hg : Gl X "range") (hm : X.mg "range" = none) (ha : AA X W [a, b] da) (hs : starEach [a, b] X.env = [(false, eval a X.env), (false, eval b X.env)] := by rfl) (hs2 : starEach [b] X.env = [(false, eval b X.env)] := by rfl) :
    II X W tg (.Call (.Name "range" p) [a, b] [] pos) (iRng2 da) := PI.imp (pi_range2 hg hm ha hs hs2) fun σ H R h => by
  obtain ⟨ι, env, S, s, er, q⟩ := h
  refine ⟨ι, env, S, s, er, (Post.bind (Rel' := Rps X.K) q).mono ?_⟩
  rintro x H1 ⟨ι1, dx, S1, e1, s1, r1, p1⟩
  unfold fRng2 at p1
  split at p1
  · rename_i i j
    obtain ⟨v, w, rfl, r, r2⟩ := rps2 r1
    cases r; cases r2
    split at p1
    · rename_i hj
      unfold Rok at hj
      rw [big_eq] at hj
      exact ⟨i, j, rfl, ⟨hj.1.1, hj.1.2, hj.2.1, hj.2.2⟩, p1 ι1 H1 _ Ext.refl s1 rng_ok⟩
    · exact p1.elim
  · exact p1.elim

/-! ### for, while -/
open Classical in
noncomputable def forGo (g : Sto → Prop) (t : Tg) (body : SDen) : List D → Env → Sto → F
  | [], env, S => if g S then .nx env S else .bad
  | x :: xs, env, S => if g S then match t.run x env with
    | some env' => match body env' S with
      | .nx e S' => forGo g t body xs e S'
      | .ct e S' => forGo g t body xs e S'
      | .bk e S' => .nx e S'
      | f => f
    | none => .bad
    else .bad
noncomputable def sFor (src : DenI) (t : Tg) (body : SDen) : SDen := fun env S => (src env S).lift env fun a S1 => forGo a.2 t body a.1 env S1
def whileGo (c : DenT) (body : SDen) : Nat → Env → Sto → F
  | 0, _, _ => .bad
  | n + 1, env, S => (c env S).lift env fun b S1 => if b then (match body env S1 with
      | .nx e S' => whileGo c body n e S'
      | .ct e S' => whileGo c body n e S'
      | .bk e S' => .nx e S'
      | f => f) else .nx env S1
def sWhile (n : Nat) (c : DenT) (body : SDen) : SDen := whileGo c body n
theorem Post.le {K : PySem.W.Frag} {mg : Str → Option Value} {α β : Type} {Rel : Hp → Em → β → α → Prop} {σ : L2.St} {ι : Em} {H : Hp} {r : R α} {Q : β → Hp → Prop} (h : Post K mg Rel W σ ι H r Q) {S : Sto} {ι0 : Em} {H0 : Hp} (e : Ext ι0 H0 ι H) (s : Sr K H ι S) :
    Post K mg Rel W σ ι H r (fun v H' => Q v H') := h
theorem rd_for {K : PySem.W.Frag} {mg : Str → Option Value} {src : DenI} {t : Tg} {db : SDen} {Dn : Ends} {σ : L2.St} {H : Hp} (h : rdS K mg W (sFor src t db) Dn σ H) : tFor (rdI K mg W src) (rdG K t) (rdS K mg W db) Dn σ H := by
  obtain ⟨ι, env, S, s, er, p⟩ := h
  refine ⟨ι, env, S, s, er, (PostS.lift (Rel := fun H1 ι1 J a => ItOk K J a.1 a.2 ι1 H1) p er).mono ?_⟩
  rintro J H1 ⟨ι1, ⟨xs, g⟩, S1, e1, s1, r1, p1⟩
  have er1 := er.ext e1
  clear p er e1 s
  simp only at r1 p1
  refine ⟨fun i m σ H => m = xs.length - i ∧ i ≤ xs.length ∧ ∃ ι2 env S2, Ext ι1 H1 ι2 H ∧ Sr K H ι2 S2 ∧ Er K H ι2 σ env ∧ PostS K mg W ι2 H (forGo g t db (xs.drop i) env S2) Dn,
    ⟨xs.length, rfl, Nat.zero_le _, ι1, env, S1, Ext.refl, s1, er1, by simpa using p1⟩, ?_⟩
  rintro i m σ H2 ⟨rfl, hi, ι2, env2, S2, e2, s2, er2, p2⟩
  by_cases hlt : i < xs.length
  · rw [List.drop_eq_getElem_cons hlt] at p2
    simp only [forGo] at p2
    split at p2
    · rename_i hg2
      obtain ⟨go, gy⟩ := r1.go ι2 H2 S2 i _ e2 s2 hg2 (List.getElem?_eq_getElem hlt)
      refine .inr ⟨go, fun σ' H' => ∃ ι3 env3 S3, Ext ι1 H1 ι3 H' ∧ Sr K H' ι3 S3 ∧ Er K H' ι3 σ' env3 ∧ PostS K mg W ι3 H' (forGo g t db (xs.drop (i + 1)) env3 S3) Dn, ?_, ?_⟩
      · rintro σ' H' ⟨ι3, env3, S3, q⟩
        exact ⟨xs.length - (i + 1), by omega, rfl, hlt, ι3, env3, S3, q⟩
      · intro v H3 y
        obtain ⟨e3, s3, r3⟩ := gy v H3 y
        split at p2
        · rename_i env' e5
          refine ⟨ι2, env2, _, env', er2.ext e3, r3, e5, fun ws _ er' => ?_⟩
          refine ⟨ι2, env', S2, s3, er', ?_⟩
          split at p2
          · rename_i e6 S6 eb
            rw [eb]
            exact fun ι4 H4 σ4 e4 s4 er4 => ⟨ι4, _, _, (e2.tr s2 e3).tr s3 e4, s4, er4, p2.ext (e3.tr s3 e4) s4⟩
          · rename_i e6 S6 eb
            rw [eb]
            exact fun ι4 H4 σ4 e4 s4 er4 => ⟨ι4, _, _, (e2.tr s2 e3).tr s3 e4, s4, er4, p2.ext (e3.tr s3 e4) s4⟩
          · rename_i e6 S6 eb
            rw [eb]
            exact fun ι4 H4 σ4 e4 s4 er4 => p2 ι4 H4 σ4 (e3.tr s3 e4) s4 er4
          · rename_i f h1 h2 h3
            have p3 := p2.ext e3 s3
            cases q : db env' S2 with
            | nx a b => exact absurd q (h1 a b)
            | ct a b => exact absurd q (h2 a b)
            | bk a b => exact absurd q (h3 a b)
            | rt a b => rw [q] at p3; exact p3
            | ex a b c d => rw [q] at p3; exact p3
            | bad => rw [q] at p3; exact p3
        · exact p2.elim
    · exact p2.elim
  · have hi' : i = xs.length := by omega
    subst hi'
    rw [List.drop_length] at p2
    simp only [forGo] at p2
    split at p2
    · rename_i hg2
      exact .inl ⟨r1.stop ι2 H2 S2 e2 s2 hg2, p2.nx s2 er2⟩
    · exact p2.elim
theorem s_for {iter : Expr} {body : List Stmt} {src : DenI} {t : Tg} {db : SDen} (hc : X.calm = true) (hi : II X W tg iter src) (hg : GG X tg t) (hb : SSs X W body db) (hp : PassesOwn (model X.prog X.w) X.A X.env X.xe) (hs : ∀ x, foldedSetIterable iter X.env x = pure x := by intro _; rfl) :
    SS X W (.For tg iter body [] pos) (sFor src t db) := PS.imp (ps_for hp hc hi hg hb hs) fun _ _ _ h => rd_for h
theorem s_while {c : Expr} {body : List Stmt} {tc : DenT} {db : SDen} (n : Nat) (hc : TT' X W c tc) (hb : SSs X W body db) (hp : PassesOwn (model X.prog X.w) X.A X.env X.xe) : SS X W (.While c body [] pos) (sWhile n tc db) := PS.imp (ps_while hp hc hb) fun Dn σ H h => by
  obtain ⟨ι, env, S, s, er, p⟩ := h
  refine ⟨fun m σ H => ∃ ι env S, Sr X.K H ι S ∧ Er X.K H ι σ env ∧ PostS X.K X.mg W ι H (whileGo tc db m env S) Dn, ⟨n, ι, env, S, s, er, p⟩, ?_⟩
  rintro m σ1 H1 ⟨ι1, env1, S1, s1, er1, p1⟩
  cases m with
  | zero => exact p1.elim
  | succ m =>
    refine ⟨ι1, env1, S1, s1, er1, (PostS.lift (Rel := fun _ _ b c => b = c) p1 er1).mono ?_⟩
    rintro b H2 ⟨ι2, _, S2, e2, s2, rfl, p2⟩
    cases b with
    | false => rw [if_neg Bool.false_ne_true]; exact p2.nx s2 (er1.ext e2)
    | true =>
      rw [if_pos rfl]
      simp only [if_true] at p2
      refine ⟨fun σ' H' => ∃ ι env S, Sr X.K H' ι S ∧ Er X.K H' ι σ' env ∧ PostS X.K X.mg W ι H' (whileGo tc db m env S) Dn, fun σ' H' q => ⟨m, Nat.lt_succ_self _, q⟩, ι2, env1, S2, s2, er1.ext e2, ?_⟩
      split at p2
      · rename_i e6 S6 eb
        rw [eb]
        exact fun ι4 H4 σ4 e4 s4 er4 => ⟨ι4, _, _, s4, er4, p2.ext e4 s4⟩
      · rename_i e6 S6 eb
        rw [eb]
        exact fun ι4 H4 σ4 e4 s4 er4 => ⟨ι4, _, _, s4, er4, p2.ext e4 s4⟩
      · rename_i e6 S6 eb
        rw [eb]
        exact fun ι4 H4 σ4 e4 s4 er4 => p2 ι4 H4 σ4 e4 s4 er4
      · rename_i f h1 h2 h3
        cases q : db env1 S2 with
        | nx a b => exact absurd q (h1 a b)
        | ct a b => exact absurd q (h2 a b)
        | bk a b => exact absurd q (h3 a b)
        | rt a b => rw [q] at p2; exact p2
        | ex a b c d => rw [q] at p2; exact p2
        | bad => rw [q] at p2; exact p2
end
end
end Z
end

section
set_option Elab.async false
set_option linter.all false
set_option maxRecDepth 100000
set_option maxHeartbeats 2000000
/-! an error of one's own made by its __init__, with what is known of its context (for suites that call defs) -/
namespace Z
open PySem PySem.Spec PyProof.Rows L2
section
variable {X : Cx} {e : Expr} {es : List Expr} {ta : TA} {pos p : Pos}
/-- the two objects that a new error of the class C lays down behind the heap g, its arguments us -/
def twoH (g : Heap) (C : Addr) (us : List Value) : Heap := (g.push (PySem.W.kdv_tup us)).push (PySem.HandSPX.excO C g.objs.size)
theorem twoH_keep {g : Heap} {C : Addr} {us : List Value} : ∀ b o, g.get? b = some o → (twoH g C us).get? b = some o := fun _ _ q => Heap.get?_push_of_some _ (Heap.get?_push_of_some _ q)
theorem twoH_get {g : Heap} {C : Addr} {us : List Value} : (twoH g C us).get? (g.objs.size + 1) = some (PySem.HandSPX.excO C g.objs.size) := by unfold twoH; heap_get
theorem pmkN_oex {G : CXT} {x : Str} {C fI : Addr} {k : Nat} {fd : FuncData} {ps : List Str} {sp : Sp} (T : OexC X.K C) (iC : PySem.W.findIn X.K (.ref C) "__init__" = some (some (.ref fI))) (tI : PySem.W.typeIn X.K (.ref fI) = some (.type "function"))
    (F1 : FnOk X.prog X.w X.K X.mg X.base G k fI fd ps sp) (hr : Room (k + 1) X.A) (hb : Binds X.K fd ps []) (hx : Passes G X (fun _ _ _ => False)) (hg : Gl X x) (hm : X.mg x = some (.ref C)) (ha : PA X (e :: es) ta)
    (hdb : (x == ("__debug__" : Str)) = false := by decide) (he : starEach (e :: es) X.env = (false, eval e X.env) :: starEach es X.env := by rfl) (hpl : (backTo pos (starEach es X.env)).any (·.1) = false := by rfl) :
    L2N.PMk X (.Call (.Name x p) (e :: es) [] pos) (tMkO C sp [] ta) := fun pins s σ H Q I h => by
  obtain ⟨_, _, _, _, bm, _, _, _, _, _, _, _, _, _, _, cC, cB⟩ := T.cls
  have run : ∀ (us : List Value) (s1 : Shared) (vs : List V) (H1 : Hp), Inv X pins σ H1 s1 → Vals vs us → (vs.length ≤ 1000 ∧ ∀ q, H1 q = none → sp (V.ref q :: (vs ++ [])) (upd H1 q (exo q C none)) (fun v H2 => v = .non ∧ ∃ d fs, H2 q = some (exo q C (some d)) ∧ H2 d = some (exd d fs) ∧ H1 d = none ∧ Q (.ref C) (some d) (upd (del H2 q) d (.xd fs))) (fun _ _ _ => False)) →
      wpAny (model X.prog X.w) X.A (call (.ref C) us) (L2N.MkP X pins σ Q) X.xe s1 := by
    rintro us s1 vs H1 I1 rv ⟨lv, g⟩
    obtain ⟨hp, gs, dr, tk, os⟩ := s1
    have old : hp.objs.size ≤ hp.objs.size + 1 := Nat.le_succ _
    have new := I1.hok.fresh old
    have g2 := g _ new
    have J : Inv X pins σ (upd H1 (hp.objs.size + 1) (exo (hp.objs.size + 1) C none)) ⟨twoH hp C us, gs, dr, tk, os⟩ := I1.laid (t' := tk) twoH_keep old (exo_ok twoH_get)
    rw [List.append_nil] at g2
    have rv2 : Vals (V.ref (hp.objs.size + 1) :: vs) (Value.ref (hp.objs.size + 1) :: us) := .cons rfl rv
    have ln : (Value.ref (hp.objs.size + 1) :: us).length = ps.length := by rw [← rv2.length, F1.len _ _ _ _ g2]
    have few : us.length ≤ sizeLine := by rw [← Paired.length rv]; exact Nat.le_trans lv (by decide)
    have bd := hb _ (Value.ref (hp.objs.size + 1) :: us) J.kIn (by rw [List.append_nil]; exact ln)
    rw [List.append_nil] at bd
    have call := F1.run _ X.stack _ _ ⟨Value.ref (hp.objs.size + 1) :: us, []⟩ (Value.ref (hp.objs.size + 1) :: us) _ _ (fun _ _ _ => False) (hr.make C us []) (J.env0.make C us []) bd rv2 g2
    refine wpAny_call (PySem.HandSPX.call_own F.excBase_ValueError (fun Y => PySem.HandSPX.refsVE_contains Y bm cB) (I1.kIn _ _ cC) (PySem.W.looks_findIn I1.kIn iC) (fun self => PySem.W.bind_fn I1.kIn self tI) few (codeAny_mono call fun r s' q => ?_))
    match r, q with
    | .error er, q => exact hx pins σ _ _ er s' J q
    | .ok .next, q => exact False.elim q
    | .ok .brk, q => exact False.elim q
    | .ok .cont, q => exact False.elim q
    | .ok (.ret u), ⟨v, H2, o2, br, un, ok2, rr, ev, d, fs, ea, ed, nd, q2⟩ =>
      subst ev
      obtain ⟨h2, g2', d2, t2, os'⟩ := s'
      obtain ⟨t0, G0, J0, k0, f0, n0, na⟩ := mk_end0 (d2 := d2) (t2 := t2) I1 old twoH_keep un ok2 o2 br ea ed nd
      exact ⟨rr, hp.objs.size + 1, _, _, ⟨G0, g2', d2, t2, os'⟩, _, .ref C, some d, rfl, J0, k0, f0, n0, ⟨rfl, rfl, fun _ z => by cases z; rfl⟩, rfl, rfl, na, rfl, br, raises_own T.exC T.tyC, q2⟩
  refine wpAny_Call_Name_kw (ld_glob I hg hm ?_ hdb)
  exact PySem.W.callWith_K (h₀ := X.base) I.ok.mod.kin T.kC (thn (ha.run pos pins s σ H _ I h) fun us s1 ⟨vs, H1, I1, r1, q1⟩ => ⟨I1.kIn, run us s1 vs H1 I1 r1 q1⟩) he hpl
end
end Z
end

section
set_option Elab.async false
set_option linter.all false
set_option maxRecDepth 100000
set_option maxHeartbeats 1000000
namespace Z
noncomputable section
open PySem PySem.Spec PyProof.Rows L2

theorem passN {X : Cx} : Passes (L2N.CX X.prog X.w) X (fun _ _ _ => False) := fun _ _ _ _ _ _ _ h => by
  obtain ⟨_, _, _, _, _, _, _, _, _, _, _, _, z⟩ := h
  exact z.elim
/-! ### defs -/
abbrev FD := List D → Sto → R D
/-- a def's promise, by what it computes -/
def spOf (K : PySem.W.Frag) (mg : Str → Option Value) (n : Nat) (f : FD) : Sp := fun vs H Q E => vs.length = n ∧ ∃ ι ds S, Sr K H ι S ∧ Rps K H ι vs ds ∧ Post K mg (Rp K) (fun c d _ H => E c d H) [] ι H (f ds S) Q
theorem Post.wish {α β : Type} {K : PySem.W.Frag} {mg : Str → Option Value} {Rel : Hp → Em → β → α → Prop} {W : WX} {σ σ' : L2.St} {ι : Em} {H : Hp} {r : R α} {Q : β → Hp → Prop} {E : XK} (h : Post K mg Rel W σ ι H r Q) (hE : ∀ c d H, W c d σ H → E c d H) : Post K mg Rel (fun c d _ H => E c d H) σ' ι H r Q := by
  cases r with
  | ok a S' => exact h
  | ex c fs S' => exact fun ι2 H2 dd C gs e2 s2 hc hd hn hl => hE _ _ _ (h ι2 H2 dd C gs e2 s2 hc hd hn hl)
  | bad => exact h
/-- what a body computes, called -/
def fnF (n : Nat) (body : SDen) : FD := fun ds S => match body (ds.map some ++ List.replicate (n - ds.length) none) S with
  | .nx _ S' => .ok .non S'
  | .rt d S' => .ok d S'
  | .ex c fs _ S' => .ex c fs S'
  | _ => .bad
theorem er_start {K : PySem.W.Frag} {H : Hp} {ι : Em} {vs : List V} {ds : List D} {N : List Str} (r : Rps K H ι vs ds) (hN : vs.length ≤ N.length) : Er K H ι (L2.start N vs) (ds.map some ++ List.replicate (N.length - ds.length) none) := by
  refine ⟨by simp [L2.start, r.length], fun i d e => ?_⟩
  by_cases hi : i < ds.length
  · rw [List.getElem?_append_left (by simpa using hi)] at e
    rw [List.getElem?_map] at e
    cases q : ds[i]? with
    | none => rw [q] at e; cases e
    | some d' =>
      rw [q] at e; cases e
      obtain ⟨v, hv, rv⟩ := r.get q
      refine ⟨v, ?_, rv⟩
      unfold L2.start
      rw [List.getElem?_append_left (by rw [List.length_map, r.length]; exact hi), List.getElem?_map, hv]
      rfl
  · rw [List.getElem?_append_right (by simpa using hi)] at e
    have := List.getElem?_replicate (a := (none : Option D)) (n := N.length - ds.length) (i := i - (ds.map some).length)
    rw [this] at e
    split at e <;> cases e
section
variable {P : Program} {w : World} {K : PySem.W.Frag} {mg : Str → Option Value} {base : Heap}
abbrev wE (E : XK) : WX := fun c d _ H => E c d H
abbrev FnZ (P : Program) (w : World) (K : PySem.W.Frag) (mg : Str → Option Value) (base : Heap) (k : Nat) (f : Addr) (fd : FuncData) (ps : List Str) (F : FD) : Prop := FnOk P w K mg base (L2N.CX P w) k f fd ps (spOf K mg ps.length F)
theorem fun_okN {G : CXT} {x qual : Str} {st : Stmt} {f : Addr} {fd : FuncData} {N ps : List Str} {k : Nat} {sp : Sp} (F : Fun K x qual st f fd) (S : FnScope N ps (defScope st)) (len : ∀ vs H Q E, sp vs H Q E → vs.length = ps.length)
    (hb : ∀ (cdv : Value) (A : Around) (outer : List PySem.Env) (s : Shared) (H : Hp) (vs : List V) (Q : VK) (E : XK), Room k (A.deeper (envOfC qual (defScope st) s.heap.objs.size f cdv)) → sp vs H Q E →
      ∃ t, PSs (cxOf G P w K mg base N qual (defScope st) f cdv A outer s H E) (defBody st) t ∧ t { nx := fun _ H' => Q .non H', rt := Q } (L2.start N vs) H) : FnOk P w K mg base G (k + 1) f fd ps sp := by
  obtain ⟨oc, od, kV, doc, pm, an, cdv, ct, osl, rfl, lk, hcd⟩ := F.ex
  exact fn_of lk hcd S len (hb cdv)
/-- THE RULE for a def -/
theorem fn_ok {x qual : Str} {st : Stmt} {f : Addr} {fd : FuncData} {N ps : List Str} {k : Nat} {body : SDen} (F : Fun K x qual st f fd) (S : FnScope N ps (defScope st)) (hN : ps.length ≤ N.length)
    (hb : ∀ (cdv : Value) (A : Around) (outer : List PySem.Env) (s : Shared) (H : Hp) (E : XK), Room k (A.deeper (envOfC qual (defScope st) s.heap.objs.size f cdv)) →
      L2N.Takes (cxOf (L2N.CX P w) P w K mg base N qual (defScope st) f cdv A outer s H E) (wE E) → SSs (cxOf (L2N.CX P w) P w K mg base N qual (defScope st) f cdv A outer s H E) (wE E) (defBody st) body) :
    FnZ P w K mg base (k + 1) f fd ps (fnF N.length body) := by
  refine fun_okN F S (fun vs H Q E h => h.1) fun cdv A outer s H vs Q E hr h => ⟨_, hb cdv A outer s H E hr (L2N.takes_of rfl rfl rfl rfl), ?_⟩
  obtain ⟨hl, ι, ds, S0, sr, r, p⟩ := h
  refine ⟨ι, _, S0, sr, er_start r (by rw [hl]; exact hN), ?_⟩
  unfold fnF at p
  show PostS K mg (wE E) ι H (body (ds.map some ++ List.replicate (N.length - ds.length) none) S0) _
  cases q : body (ds.map some ++ List.replicate (N.length - ds.length) none) S0 with
  | nx e S' => rw [q] at p; exact fun ι' H' σ' e1 s1 _ => p ι' H' .non e1 s1 .non
  | rt d S' => rw [q] at p; exact p
  | ex c fs e S' => rw [q] at p; exact fun ι' H' σ' dd C gs e1 s1 _ => p ι' H' dd C gs e1 s1
  | bk e S' => rw [q] at p; exact p.elim
  | ct e S' => rw [q] at p; exact p.elim
  | bad => rw [q] at p; exact p.elim
end
/-- f(..): the written arguments, then the defaults -/
def dCall (F : FD) (dds : List D) (a : DenA) : Den := fun env S => (a env S).bind fun ds S1 => F (ds ++ dds) S1
/-- constants for defaults -/
inductive Flats : List V → List D → Prop
  | nil : Flats [] []
  | cons {v : V} {d : D} {vs : List V} {ds : List D} : Flat v d → Flats vs ds → Flats (v :: vs) (d :: ds)
theorem Flats.rps {K : PySem.W.Frag} {H : Hp} {ι : Em} : ∀ {vs : List V} {ds : List D}, Flats vs ds → Rps K H ι vs ds
  | _, _, .nil => .nil
  | _, _, .cons h hs => .cons h.rp hs.rps
section
variable {X : Cx} {W : WX} {k : Nat} {f : Addr} {fd : FuncData} {ps : List Str} {F : FD} {dvs : List V} {dds : List D} {us : List Value} {x : Str} {p pos : Pos} {e : Expr} {es : List Expr} {da : DenA}
theorem rd_call {K : PySem.W.Frag} {mg : Str → Option Value} {σ : L2.St} {H : Hp} {Q : VK} {n : Nat} (fl : Flats dvs dds) (hn : ∀ ds S, ds.length + dds.length ≠ n → F (ds ++ dds) S = .bad) (h : rd K mg W (dCall F dds da) σ H Q) : tCallSD (spOf K mg n F) dvs (WE W) (rdA K mg W da) σ H Q := by
  obtain ⟨ι, env, S, s, er, q⟩ := h
  refine ⟨ι, env, S, s, er, (Post.bind (Rel' := Rps K) q).mono ?_⟩
  rintro xs H1 ⟨ι1, ds, S1, e1, s1, r1, p1⟩
  have r2 := r1.append (fl.rps (K := K) (H := H1) (ι := ι1))
  by_cases hl : ds.length + dds.length = n
  · exact ⟨by rw [r2.length, List.length_append]; exact hl, ι1, _, S1, s1, r2, Post.wish (E := WE W σ) p1 fun _ _ _ h => h⟩
  · rw [hn ds S1 hl] at p1; exact p1.elim
/-- a call's result where the number of arguments is right -/
def arity (n : Nat) (F : FD) : FD := fun ds S => if ds.length = n then F ds S else .bad
theorem e_call {n : Nat} (Fk : FnZ X.prog X.w X.K X.mg X.base k f fd ps F) (hr : Room k X.A) (hm : X.mg x = some (.ref f)) (hk : PySem.W.keepIn X.K (.ref f) = true) (hb : Binds X.K fd ps us) (hd : Vals dvs us) (fl : Flats dvs dds) (tk : L2N.Takes X W) (ha : AA X W (e :: es) da) (hn : ps.length = n := by rfl) (hg : Gl X x := by rfl)
    (hdb : (x == ("__debug__" : Str)) = false := by decide) (he : starEach (e :: es) X.env = (false, eval e X.env) :: starEach es X.env := by rfl) (hpl : (backTo pos (starEach es X.env)).any (·.1) = false := by rfl) :
    EE X W (.Call (.Name x p) (e :: es) [] pos) (dCall (arity n F) dds da) := by
  subst hn
  have F2 : FnOk X.prog X.w X.K X.mg X.base (L2N.CX X.prog X.w) k f fd ps (spOf X.K X.mg ps.length (arity ps.length F)) := Fk.imp fun vs H Q E h => by
    obtain ⟨h1, ι, ds, S, s, r, q⟩ := h
    unfold arity at q
    rw [if_pos (by rw [← r.length]; exact h1)] at q
    exact ⟨h1, ι, ds, S, s, r, q⟩
  refine PE.imp (pe_callSD F2 hr hg hm hk hb hd (fun σ => L2N.passAt tk σ) ha hdb he hpl) fun σ H Q h => rd_call fl (fun ds S hn => ?_) h
  unfold arity
  rw [if_neg (by rw [List.length_append]; exact hn)]
end

/-! ### methods of built-in types -/
inductive Mt where
  | list | str
def Mt.nm : Mt → String
  | .list => "list" | .str => "str"
def tyD : Mt → D → Sto → Bool
  | .list, x, S => (lstOf S x).isSome
  | .str, .str _, _ => true
  | _, _, _ => false
def dBM (t : Mt) (f : D → List D → Sto → R D) (o : Den) (a : DenA) : Den := fun env S => (o env S).bind fun x S1 => if tyD t x S1 = true then (a env S1).bind fun ys S2 => f x ys S2 else .bad
def dBM0 (t : Mt) (f : D → List D → Sto → R D) (o : Den) : Den := fun env S => (o env S).bind fun x S1 => if tyD t x S1 = true then f x [] S1 else .bad
def MzS (K : PySem.W.Frag) (r : V → List V → Hp → VK → Prop) (f : D → List D → Sto → R D) : Prop :=
  ∀ (mg : Str → Option Value) (W : WX) (σ : L2.St) (ι : Em) (H : Hp) (S : Sto) (x : V) (dx : D) (ys : List V) (dys : List D) (Q : VK), Sr K H ι S → Rp K H ι x dx → Rps K H ι ys dys → Post K mg (Rp K) W σ ι H (f dx dys S) Q → r x ys H Q
section
variable {X : Cx} {W : WX} {o e : Expr} {es : List Expr} {d : Den} {da : DenA} {apos cpos : Pos} {name : Str} {id : String} {r : V → List V → Hp → VK → Prop} {f : D → List D → Sto → R D}
theorem tyD_ok {K : PySem.W.Frag} {H : Hp} {ι : Em} {S : Sto} {v : V} {x : D} {t : Mt} (s : Sr K H ι S) (r : Rp K H ι v x) (h : tyD t x S = true) : tyV K t.nm v H := by
  cases t with
  | list =>
    simp only [tyD, Option.isSome_iff_exists] at h
    obtain ⟨xs, e⟩ := h
    obtain ⟨a, vs, rfl, hs, _⟩ := lst_inv s r e
    exact .inl ⟨rfl, vs, hs⟩
  | str =>
    cases x with
    | str z => cases r; exact rfl
    | _ => cases h
theorem e_bm (t : Mt) (pa : PlainAttrs t.nm) (slot : Slot t.nm name id) (hty : typeOf (.builtin id) = pure (.type "method_descriptor")) (hm : MtR X id r) (hf : MzS X.K r f) (ho : EE X W o d) (ha : AA X W (e :: es) da)
    (hbase : attributeBase o name X.env (eval o X.env) = eval o X.env := by rfl)
    (hfew : ((backTo cpos (starEach (e :: es) X.env)).all (fun x => !x.1) && (backToKw cpos (keywordEach [] X.env)).all (fun x => x.1.isSome) && decide ((e :: es).length + ([] : List Keyword).length + (if ([] : List Keyword).isEmpty then 0 else 1) < 30)) = true := by rfl)
    (hline : (apos.endLine == cpos.line) = true := by rfl) (hs : starEach (e :: es) X.env = (false, eval e X.env) :: starEach es X.env := by rfl) (hplain : (backTo cpos (starEach es X.env)).any (·.1) = false := by rfl) :
    EE X W (.Call (.Attribute o name apos) (e :: es) [] cpos) (dBM t f d da) := PE.imp (pe_bm pa slot hty hm ho ha hbase hfew hline hs hplain) fun σ H Q h => by
  obtain ⟨ι, env, S, s, er, p⟩ := h
  refine ⟨ι, env, S, s, er, (Post.bind (Rel' := Rp X.K) p).mono ?_⟩
  rintro x H1 ⟨ι1, dx, S1, e1, s1, r1, p1⟩
  split at p1
  · rename_i ht
    refine ⟨tyD_ok s1 r1 ht, ι1, env, S1, s1, er.ext e1, (Post.bind (Rel' := Rps X.K) p1).mono ?_⟩
    rintro ys H2 ⟨ι2, dys, S2, e2, s2, r2, p2⟩
    exact hf _ _ σ ι2 H2 S2 x dx ys dys Q s2 (r1.ext e2) r2 p2
  · exact p1.elim
theorem e_bm0 (t : Mt) (pa : PlainAttrs t.nm) (slot : Slot t.nm name id) (hty : typeOf (.builtin id) = pure (.type "method_descriptor")) (hm : MtR X id r) (hf : MzS X.K r f) (ho : EE X W o d)
    (hbase : attributeBase o name X.env (eval o X.env) = eval o X.env := by rfl) (hline : (apos.endLine == cpos.line) = true := by rfl) :
    EE X W (.Call (.Attribute o name apos) [] [] cpos) (dBM0 t f d) := PE.imp (pe_bm0 pa slot hty hm ho hbase hline) fun σ H Q h => by
  obtain ⟨ι, env, S, s, er, p⟩ := h
  refine ⟨ι, env, S, s, er, (Post.bind (Rel' := Rp X.K) p).mono ?_⟩
  rintro x H1 ⟨ι1, dx, S1, e1, s1, r1, p1⟩
  split at p1
  · rename_i ht
    exact ⟨tyD_ok s1 r1 ht, hf _ _ σ ι1 H1 S1 x dx [] [] Q s1 r1 .nil p1⟩
  · exact p1.elim
end
def fApp (x : D) (ys : List D) (S : Sto) : R D := match x, ys with
  | .ref n, [y] => match S[n]? with
    | some (.lst xs) => if FitS xs.length then .ok .non (S.set n (.lst (xs ++ [y]))) else .bad
    | none => .bad
  | _, _ => .bad
def fPop (x : D) (ys : List D) (S : Sto) : R D := match x, ys with
  | .ref n, [] => match S[n]? with
    | some (.lst xs) => match xs[xs.length - 1]? with
      | some y => .ok y (S.set n (.lst xs.dropLast))
      | none => .bad
    | none => .bad
  | _, _ => .bad
def fRevM (x : D) (ys : List D) (S : Sto) : R D := match x, ys with
  | .ref n, [] => match S[n]? with
    | some (.lst xs) => .ok .non (S.set n (.lst xs.reverse))
    | none => .bad
  | _, _ => .bad
section
variable {K : PySem.W.Frag}
theorem refL {H : Hp} {ι : Em} {S : Sto} {v : V} {n : Nat} {xs : List D} (s : Sr K H ι S) (r : Rp K H ι v (.ref n)) (e : S[n]? = some (.lst xs)) : ∃ a vs, v = .ref a ∧ ι.c[n]? = some a ∧ H a = some (.lst vs) ∧ Rps K H ι vs xs := by
  obtain ⟨a, rfl, ea⟩ := r.ref_inv
  obtain ⟨vs, h1, h2⟩ := s.list ea e
  exact ⟨a, vs, rfl, ea, h1, h2⟩
theorem Rps.dropLast {H : Hp} {ι : Em} {vs : List V} {ds : List D} (r : Rps K H ι vs ds) : Rps K H ι vs.dropLast ds.dropLast := by
  rw [List.dropLast_eq_take, List.dropLast_eq_take, r.length]; exact r.take _
theorem sApp : MzS K rAppend fApp := by
  intro mg W σ ι H S x dx ys dys Q s r rs p
  unfold fApp at p
  split at p
  · rename_i n y
    split at p
    · rename_i xs e
      split at p
      · rename_i hl
        obtain ⟨a, vs, rfl, ea, h1, h2⟩ := refL s r e
        obtain ⟨u, rfl, ru⟩ := rps1 rs
        exact ⟨a, vs, u, rfl, rfl, h1, by rw [h2.length]; exact hl, p ι _ _ (Ext.put ea) (s.put ea (h2.append (.cons ru .nil))) .non⟩
      · exact p.elim
    · exact p.elim
  · exact p.elim
theorem sPop : MzS K rPop fPop := by
  intro mg W σ ι H S x dx ys dys Q s r rs p
  unfold fPop at p
  split at p
  · rename_i n
    cases rs
    split at p
    · rename_i xs e
      split at p
      · rename_i y e2
        obtain ⟨a, vs, rfl, ea, h1, h2⟩ := refL s r e
        obtain ⟨u, e3, ru⟩ := h2.get e2
        exact ⟨a, vs, u, rfl, rfl, h1, by rw [h2.length]; exact e3, p ι _ _ (Ext.put ea) (s.put ea h2.dropLast) (ru.ext (Ext.put ea))⟩
      · exact p.elim
    · exact p.elim
  · exact p.elim
theorem sRevM : MzS K rReverse fRevM := by
  intro mg W σ ι H S x dx ys dys Q s r rs p
  unfold fRevM at p
  split at p
  · rename_i n
    cases rs
    split at p
    · rename_i xs e
      obtain ⟨a, vs, rfl, ea, h1, h2⟩ := refL s r e
      exact ⟨a, vs, rfl, rfl, h1, p ι _ _ (Ext.put ea) (s.put ea h2.reverse) .non⟩
    · exact p.elim
  · exact p.elim
end
/-! ### all, any of a list of bools -/
def boolsOf : List D → Option (List Bool)
  | [] => some []
  | .bl b :: xs => (boolsOf xs).map fun bs => b :: bs
  | _ :: _ => none
def fAll (xs : List D) (S : Sto) : R D := match xs with
  | [x] => match lstOf S x with
    | some ys => match boolsOf ys with
      | some bs => .ok (.bl (bs.all id)) S
      | none => .bad
    | none => .bad
  | _ => .bad
def fAny (xs : List D) (S : Sto) : R D := match xs with
  | [x] => match lstOf S x with
    | some ys => match boolsOf ys with
      | some bs => .ok (.bl (bs.any id)) S
      | none => .bad
    | none => .bad
  | _ => .bad
section
variable {K : PySem.W.Frag}
theorem bools_rp {H : Hp} {ι : Em} : ∀ {ds : List D} {vs : List V} {bs : List Bool}, Rps K H ι vs ds → boolsOf ds = some bs → vs = bs.map V.bl
  | [], _, _, r, e => by cases r; cases e; rfl
  | d :: ds, _, _, r, e => by
    cases r with
    | cons r rs =>
      cases d with
      | bl b =>
        rw [boolsOf] at e
        cases q : boolsOf ds with
        | none => rw [q] at e; cases e
        | some bs => rw [q] at e; cases e; cases r; rw [bools_rp rs q]; rfl
      | _ => cases e
theorem sAll : CbS K (rAll K) fAll := by
  intro mg W σ ι H S xs ds Q s r p
  unfold fAll at p
  split at p
  · obtain ⟨x, rfl, r0⟩ := rps1 r
    split at p
    · rename_i ys e
      split at p
      · rename_i bs e2
        obtain ⟨a, vs, rfl, hs, rs⟩ := lst_inv s r0 e
        rw [bools_rp rs e2] at hs
        exact ⟨a, bs, rfl, hs, p.ret s (.bl _)⟩
      · exact p.elim
    · exact p.elim
  · exact p.elim
theorem sAny : CbS K (rAny K) fAny := by
  intro mg W σ ι H S xs ds Q s r p
  unfold fAny at p
  split at p
  · obtain ⟨x, rfl, r0⟩ := rps1 r
    split at p
    · rename_i ys e
      split at p
      · rename_i bs e2
        obtain ⟨a, vs, rfl, hs, rs⟩ := lst_inv s r0 e
        rw [bools_rp rs e2] at hs
        exact ⟨a, bs, rfl, hs, p.ret s (.bl _)⟩
      · exact p.elim
    · exact p.elim
  · exact p.elim
end

/-! ### [e for t in xs if c] -/
def wipeE (env : Env) : List Nat → Env
  | [] => env
  | v :: vs => (wipeE env vs).set v none
theorem Er.wipe {K : PySem.W.Frag} {H : Hp} {ι : Em} {σ : L2.St} {env : Env} (h : Er K H ι σ env) : ∀ vs : List Nat, Er K H ι (L2.wipe σ vs) (wipeE env vs)
  | [] => h
  | v :: vs => (Er.wipe h vs).unset
open Classical in
noncomputable def lcGo (g : Sto → Prop) (t : Tg) (c : DenT) (elt : Den) (env : Env) : List D → List D → Sto → R (List D)
  | [], acc, S => if g S then .ok acc S else .bad
  | x :: xs, acc, S => if g S then match t.run x env with
    | some env' => match c env' S with
      | .ok b S1 => if b then (match elt env' S1 with
        | .ok y S2 => if FitS acc.length then lcGo g t c elt env xs (acc ++ [y]) S2 else .bad
        | _ => .bad) else lcGo g t c elt env xs acc S1
      | _ => .bad
    | none => .bad
    else .bad
def lcEnd (cell : Bool) (ys : List D) (S2 : Sto) : R D := if cell then .ok (.ref S2.length) (S2 ++ [.lst ys]) else .ok (.lst ys) S2
/-- cell: the new list is put into the store at the end -/
noncomputable def dLc (cell : Bool) (src : DenI) (vs : List Nat) (t : Tg) (c : DenT) (elt : Den) : Den := fun env S => (src env S).bind fun a S1 => (lcGo a.2 t c elt (wipeE env vs) a.1 [] S1).bind (lcEnd cell)
theorem wipe_sets : ∀ {ws : List (Nat × V)} {σ : L2.St} {vs : List Nat}, (∀ p ∈ ws, p.1 ∈ vs) → L2.wipe (setsV σ ws) vs = L2.wipe σ vs
  | [], _, _, _ => rfl
  | (i, v) :: r, σ, vs, h => by
    show L2.wipe (setsV (σ.set i (some v)) r) vs = _
    rw [wipe_sets fun p hp => h p (List.mem_cons_of_mem _ hp)]
    have hi : i ∈ vs := h (i, v) List.mem_cons_self
    clear h
    induction vs with
    | nil => cases hi
    | cons u us ih =>
      show (L2.wipe (σ.set i (some v)) us).set u none = (L2.wipe σ us).set u none
      by_cases hm : i ∈ us
      · rw [ih hm]
      · have e : i = u := by
          rcases List.mem_cons.mp hi with e | e
          · exact e
          · exact absurd e hm
        subst e
        have g : ∀ (τ : L2.St) (us : List Nat), i ∉ us → L2.wipe (τ.set i (some v)) us = (L2.wipe τ us).set i (some v) := fun τ us hu => by
          induction us with
          | nil => rfl
          | cons w ws ih2 =>
            show (L2.wipe (τ.set i (some v)) ws).set w none = ((L2.wipe τ ws).set w none).set i (some v)
            rw [ih2 fun z => hu (List.mem_cons_of_mem _ z)]
            exact List.set_comm _ _ fun z => hu (z ▸ List.mem_cons_self)
        rw [g σ us hm, List.set_set]
section
variable {X : Cx} {W : WX}
abbrev W0 : WX := fun _ _ _ _ => False
theorem wipe_idem (σ : L2.St) (vs : List Nat) : L2.wipe (L2.wipe σ vs) vs = L2.wipe σ vs := by
  have g : ∀ (us : List Nat) (τ : L2.St), (∀ u ∈ us, ∀ j, j < τ.length → u = j → τ[j]? = some none) → L2.wipe τ us = τ := fun us => by
    induction us with
    | nil => intro τ _; rfl
    | cons u us ih =>
      intro τ h
      show (L2.wipe τ us).set u none = τ
      rw [ih τ fun w hw => h w (List.mem_cons_of_mem _ hw)]
      apply List.ext_getElem?
      intro j
      by_cases e : u = j
      · subst e
        by_cases hl : u < τ.length
        · rw [List.getElem?_set_self hl, h u List.mem_cons_self u hl rfl]
        · rw [List.getElem?_eq_none (by simpa using hl), List.getElem?_eq_none (by simpa using hl)]
      · rw [List.getElem?_set_ne e]
  have k : ∀ (us : List Nat) (u : Nat) (j : Nat), u ∈ us → u = j → j < (L2.wipe σ us).length → (L2.wipe σ us)[j]? = some none := fun us => by
    induction us with
    | nil => intro u j h; cases h
    | cons w ws ih =>
      intro u j hu e hl
      subst e
      show ((L2.wipe σ ws).set w none)[u]? = some none
      by_cases e2 : w = u
      · subst e2
        rw [List.getElem?_set_self (by rw [L2.wipe_length] at hl ⊢; exact hl)]
      · rw [List.getElem?_set_ne e2]
        rcases List.mem_cons.mp hu with q | q
        · exact absurd q.symm e2
        · exact ih u u q rfl (by rw [L2.wipe_length] at hl ⊢; exact hl)
  exact g vs _ fun u hu j hl e => k vs u j hu e hl
theorem rd_lc {K : PySem.W.Frag} {mg : Str → Option Value} {cell : Bool} {src : DenI} {vs : List Nat} {t : Tg} {c : DenT} {elt : Den} (hsl : ∀ i ∈ t.sl, i ∈ vs) {σ : L2.St} {H : Hp} {Q : VK} (h : rd K mg W (dLc cell src vs t c elt) σ H Q) :
    tLc (rdI K mg W src) (rdG K t) (rdT K mg W0 c) (rd K mg W0 elt) vs σ H Q := by
  obtain ⟨ι, env, S, s, er, p⟩ := h
  refine ⟨ι, env, S, s, er, (Post.bind (Rel' := fun H1 ι1 J a => ItOk K J a.1 a.2 ι1 H1) p).mono ?_⟩
  rintro J H1 ⟨ι1, ⟨xs, g⟩, S1, e1, s1, r1, p1⟩
  have erw := (er.ext e1).wipe vs
  clear p er e1 s
  simp only at r1 p1
  intro Da hD
  have hDb : Da ∉ ι1.b := fun z => s1.ban _ z hD
  refine ⟨fun i m H => m = xs.length - i ∧ i ≤ xs.length ∧ ∃ ι2 S2 acc us, Ext ι1 H1 ι2 H ∧ Sr K H ι2 S2 ∧ Da ∈ ι2.b ∧ Da ∉ ι2.c ∧ H Da = some (.lst us) ∧ Rps K H ι2 us acc ∧
      Post K mg (Rp K) W σ ι1 H1 ((lcGo g t c elt (wipeE env vs) (xs.drop i) acc S2).bind (lcEnd cell)) Q,
    ⟨xs.length, rfl, Nat.zero_le _, ι1.ban Da, S1, [], [], Ext.banned hD, s1.banned hD, List.mem_cons_self, s1.outC hD, upd_same, .nil, p1⟩, ?_⟩
  rintro i m H2 ⟨rfl, hi, ι2, S2, acc, us, e2, s2, hb, hc, hd, ra, p2⟩
  by_cases hlt : i < xs.length
  · rw [List.drop_eq_getElem_cons hlt] at p2
    simp only [lcGo] at p2
    split at p2
    · rename_i hg2
      obtain ⟨go, gy⟩ := r1.go ι2 H2 S2 i _ e2 s2 hg2 (List.getElem?_eq_getElem hlt)
      refine .inr ⟨go, fun H' => ∃ ι2 S2 acc us, Ext ι1 H1 ι2 H' ∧ Sr K H' ι2 S2 ∧ Da ∈ ι2.b ∧ Da ∉ ι2.c ∧ H' Da = some (.lst us) ∧ Rps K H' ι2 us acc ∧
        Post K mg (Rp K) W σ ι1 H1 ((lcGo g t c elt (wipeE env vs) (xs.drop (i + 1)) acc S2).bind (lcEnd cell)) Q,
        fun H' q => ⟨xs.length - (i + 1), by omega, rfl, hlt, q⟩, fun v H3 y => ?_⟩
      obtain ⟨e3, s3, r3⟩ := gy v H3 y
      split at p2
      · rename_i env' e5
        refine ⟨ι2, wipeE env vs, _, env', (erw.ext e2).ext e3, r3, e5, fun ws hw er' => ⟨?_, ?_⟩⟩
        · rw [wipe_sets fun p hp => hsl _ (hw p hp), wipe_idem]
        have hd3 : H3 Da = some (.lst us) := e3.keep _ _ hc hd
        refine ⟨ι2, env', S2, s3, er', ?_⟩
        split at p2
        · rename_i b S3 ec
          rw [ec]
          intro ι3 H4 b' e4 s4 hbb
          subst hbb
          have hc4 : Da ∉ ι3.c := e4.outC hc hd3
          have hd4 : H4 Da = some (.lst us) := e4.keep _ _ hc hd3
          have hb4 : Da ∈ ι3.b := by obtain ⟨nb, q, _⟩ := e4.ban; rw [q]; exact List.mem_append_right _ hb
          have e14 := (e2.tr s2 e3).tr s3 e4
          cases b' with
          | false =>
            rw [if_neg Bool.false_ne_true]
            exact ⟨ι3, S3, acc, us, e14, s4, hb4, hc4, hd4, (ra.ext e3).ext e4, p2⟩
          | true =>
            rw [if_pos rfl]
            simp only [if_true] at p2
            refine ⟨ι3, env', S3, s4, er'.ext e4, ?_⟩
            split at p2
            · rename_i y1 S5 ee
              rw [ee]
              intro ι4 H5 yv e5' s5 r5
              have hc5 : Da ∉ ι4.c := e5'.outC hc4 hd4
              have hd5 : H5 Da = some (.lst us) := e5'.keep _ _ hc4 hd4
              have hb5 : Da ∈ ι4.b := by obtain ⟨nb, q, _⟩ := e5'.ban; rw [q]; exact List.mem_append_right _ hb4
              split at p2
              · rename_i hl
                have ra5 := ((ra.ext e3).ext e4).ext e5'
                have e15 := e14.tr s4 e5'
                refine ⟨us, hd5, by rw [ra5.length]; exact hl, ι4, S5, acc ++ [y1], us ++ [yv], ?_, s5.ban2 hb5 hc5, hb5, hc5, upd_same, (ra5.append (.cons r5 .nil)).ban2 hb5, p2⟩
                exact ⟨e15.ban, e15.pre, fun a o ha h => by rw [upd_ne (ne_of_none h hD)]; exact e15.keep a o ha h⟩
              · exact p2.elim
            · exact p2.elim
        · exact p2.elim
      · exact p2.elim
    · exact p2.elim
  · have hi' : i = xs.length := by omega
    subst hi'
    rw [List.drop_length] at p2
    simp only [lcGo] at p2
    split at p2
    · rename_i hg2
      refine .inl ⟨r1.stop ι2 H2 S2 e2 s2 hg2, ?_⟩
      rcases e2.free (p := Da) with ef | ef
      · cases cell with
        | false =>
          exact p2 (ι2.free Da) H2 (.ref Da) ef s2.free (.lst (fun z => by
            rcases z with z | z
            · exact hc z
            · simpa using (List.mem_filter.mp z).2) hd (ra.less (fun _ => Em.free_has) fun _ _ z => z))
        | true =>
          refine p2 ((ι2.free Da).push Da) H2 (.ref Da) ⟨ef.ban, ?_, ef.keep⟩ (s2.adopt hb hc hd ra) (.ref ?_)
          · obtain ⟨new, q, k⟩ := ef.pre
            replace q : ι2.c = ι1.c ++ new := q
            refine ⟨new ++ [Da], ?_, fun p hp => ?_⟩
            · show ι2.c ++ [Da] = _
              rw [← List.append_assoc, ← q]
            · rcases List.mem_append.mp hp with hp | hp
              · exact k p hp
              · cases List.mem_singleton.mp hp; exact hD
          · show (ι2.c ++ [Da])[S2.length]? = some Da
            rw [← s2.len]; simp
      · exact absurd ef hDb
    · exact p2.elim
def tYesD : DenT := fun _ S => .ok true S
theorem rdT_yes {K : PySem.W.Frag} {mg : Str → Option Value} {W : WX} {σ : L2.St} {H : Hp} {Q : Bool → Hp → Prop} (h : rdT K mg W tYesD σ H Q) : tYes σ H Q := by
  obtain ⟨ι, env, S, s, er, p⟩ := h
  exact p.ret s rfl
end
end
end Z
end

section
set_option Elab.async false
set_option linter.all false
set_option maxRecDepth 100000
set_option maxHeartbeats 1000000
namespace Z
noncomputable section
open PySem PySem.Spec PyProof.Rows L2

/-! ### comprehensions, in short -/
section
variable {X : Cx} {W : WX} {tg iter elt c : Expr} {src : DenI} {t : Tg} {dc : DenT} {d : Den} {scope : Scope} {own : List (Str × Nat)} {pos : Pos}
theorem ts_nil {X : Cx} {K : PySem.W.Frag} {mg : Str → Option Value} : PTs X [] (rdT K mg W0 tYesD) := ⟨fun pins s σ H Q I h => pts_nil.run pins s σ H Q I (rdT_yes h)⟩
theorem ts_one {X : Cx} {K : PySem.W.Frag} {mg : Str → Option Value} (h : PT X c (rdT K mg W0 dc)) : PTs X [c] (rdT K mg W0 dc) := pts_one h
theorem e_lc (cell : Bool) (hc : X.calm = true) (hN : X.N.Nodup) {ifs : List Expr} (hi : II X W tg iter src) (ok : BlkOk X.N X.env.scope scope own)
    (hg : ∀ (s : Shared) (H : Hp) (C : Addr) (cl : List (Str × Addr)) (fp : List Addr), PG (X.blk s H scope (compEnvC scope cl C X.env) fp) tg (rdG X.K t)) (ht : ∀ (s : Shared) (H : Hp) (C : Addr) (cl : List (Str × Addr)) (fp : List Addr), PTs (X.blk s H scope (compEnvC scope cl C X.env) fp) ifs (rdT X.K X.mg W0 dc))
    (he : ∀ (s : Shared) (H : Hp) (C : Addr) (cl : List (Str × Addr)) (fp : List Addr), PE (X.blk s H scope (compEnvC scope cl C X.env) fp) elt (rd X.K X.mg W0 d)) (hsl : ∀ i ∈ t.sl, i ∈ own.map (·.2)) (hs : ∀ x, foldedSetIterable iter X.env x = pure x := by intro _; rfl) :
    EE X W (.ListComp elt [⟨tg, iter, ifs, 0⟩] scope pos) (dLc cell src (own.map (·.2)) t dc d) := PE.imp (pe_lc hc hN hi ok hg ht he hs) fun σ H Q h => rd_lc hsl h
theorem s_setLc (cell : Bool) {i : Nat} {y : Str} {py spos : Pos} (hc : X.calm = true) (hN : X.N.Nodup) (hy : X.N[i]? = some y) (hyl : X.env.scope.names.lookup y = some .local) {ifs : List Expr}
    (hsw : swapsWith (.ListComp elt [⟨tg, iter, ifs, 0⟩] scope pos) (some (.Name y py)) spos.line X.env = pure true) (hi : II X W tg iter src) (ok : BlkOk X.N X.env.scope scope own)
    (hg : ∀ (s : Shared) (H : Hp) (C : Addr) (cl : List (Str × Addr)) (fp : List Addr), PG (X.blk s H scope (compEnvC scope cl C X.env) fp) tg (rdG X.K t)) (ht : ∀ (s : Shared) (H : Hp) (C : Addr) (cl : List (Str × Addr)) (fp : List Addr), PTs (X.blk s H scope (compEnvC scope cl C X.env) fp) ifs (rdT X.K X.mg W0 dc))
    (he : ∀ (s : Shared) (H : Hp) (C : Addr) (cl : List (Str × Addr)) (fp : List Addr), PE (X.blk s H scope (compEnvC scope cl C X.env) fp) elt (rd X.K X.mg W0 d)) (hsl : ∀ i ∈ t.sl, i ∈ own.map (·.2)) (hs : ∀ x, foldedSetIterable iter X.env x = pure x := by intro _; rfl) :
    SS X W (.Assign [.Name y py] (.ListComp elt [⟨tg, iter, ifs, 0⟩] scope pos) spos) (sSet i (dLc cell src (own.map (·.2)) t dc d)) := PS.imp (ps_setLc hc hN hy hyl hsw hi ok hg ht he hs) fun Dn σ H h => by
  obtain ⟨ι, env, S, s, er, p⟩ := h
  have q := PostS.lift (Rel := Rp X.K) p er
  refine rd_lc hsl ⟨ι, env, S, s, er, q.mono ?_⟩
  rintro x H1 ⟨ι1, dx, S1, e1, s1, r1, p1⟩
  exact p1.nx s1 ((er.ext e1).set r1)
end

/-! ### errors of the program's own -/
/-- what the written part says of an error class c at C with the fields ks -/
structure ErrC (K : PySem.W.Frag) (mg : Str → Option Value) (c : Str) (C : Addr) (ks : List Str) : Prop where
  gl : mg c = some (.ref C)
  oex : OexC K C
  xf : XfC K C
  cl : (PySem.W.clsIn K C).isSome = true
  ca : PySem.W.findIn K (.ref C) "__class__" = some (some (.builtin "object.__class__"))
  cn : PySem.W.specialIn K (.builtin "object.__class__") "__get__" = some (some (.builtin "getset_descriptor.__get__"))
  ct : PySem.W.takesIn K (.builtin "object.__class__") = some true
  cm : PySem.W.mroIn K C (.type "object") = some true
  no : ∀ f ∈ ks, PySem.W.findIn K (.ref C) f = some none
/-- __init__ with one, two fields -/
def spI1 (K : PySem.W.Frag) (C : Addr) (f : Str) : Sp := fun vs H Q _ => ∃ a y, vs = [.ref a, y] ∧ OexC K C ∧ PySem.W.findIn K (.ref C) f = some none ∧ H a = some (exo a C none) ∧ ∀ dx, H dx = none → dx ≠ a → Q .non (upd (upd H dx (exd dx [(f, y)])) a (exo a C (some dx)))
def spI2 (K : PySem.W.Frag) (C : Addr) (f g : Str) : Sp := fun vs H Q _ => ∃ a y z, vs = [.ref a, y, z] ∧ OexC K C ∧ PySem.W.findIn K (.ref C) f = some none ∧ PySem.W.findIn K (.ref C) g = some none ∧ H a = some (exo a C none) ∧
  ∀ dx, H dx = none → dx ≠ a → Q .non (upd (upd (upd H dx (exd dx [(f, y)])) a (exo a C (some dx))) dx (exd dx [(g, z), (f, y)]))
theorem read_I1 {K : PySem.W.Frag} {C : Addr} {f : Str} {vs : List V} {H : Hp} {Q : VK} {E : XK} {N : List Str} (h : spI1 K C f vs H Q E) (hN : N.length = 2) : (tOst K f (tVar 0) (tVar 1)) { nx := fun _ H' => Q .non H', rt := Q } (L2.start N vs) H := by
  obtain ⟨a, y, rfl, T, hf, ha, q⟩ := h
  refine ⟨y, by simp [L2.start], .ref a, by simp [L2.start], a, C, rfl, T, hf, .inl ⟨ha, fun dx h1 h2 => q dx h1 h2⟩⟩
theorem read_I2 {K : PySem.W.Frag} {C : Addr} {f g : Str} {vs : List V} {H : Hp} {Q : VK} {E : XK} {N : List Str} (h : spI2 K C f g vs H Q E) (hN : N.length = 3) : (tSeq (tOst K f (tVar 0) (tVar 1)) (tOst K g (tVar 0) (tVar 2))) { nx := fun _ H' => Q .non H', rt := Q } (L2.start N vs) H := by
  obtain ⟨a, y, z, rfl, T, hf, hg, ha, q⟩ := h
  refine ⟨y, by simp [L2.start], .ref a, by simp [L2.start], a, C, rfl, T, hf, .inl ⟨ha, fun dx h1 h2 => ?_⟩⟩
  refine ⟨z, by simp [L2.start], .ref a, by simp [L2.start], a, C, rfl, T, hg, .inr ⟨dx, [(f, y)], upd_same, ?_, by simp, q dx h1 h2⟩⟩
  rw [upd_ne h2, upd_same]
/-- raise c(..): the last field first -/
def sRaise (c : Str) (ks : List Str) (a : DenA) : SDen := fun env S => (a env S).lift env fun ds S1 => if ds.length = ks.length then .ex c ((ks.zip ds).reverse) env S1 else .bad
section
variable {X : Cx} {W : WX} {e : Expr} {es : List Expr} {da : DenA} {pos pos2 p : Pos} {c : Str} {C fI : Addr} {k : Nat} {fd : FuncData} {ps : List Str}
theorem del_new {H : Hp} {a d : Addr} {o : HO} (h : H a = none) (hd : d ≠ a) : upd (del H a) d o = upd H d o := by
  funext b
  by_cases hb : b = d
  · subst hb; rw [upd_same, upd_same]
  · rw [upd_ne hb, upd_ne hb]
    by_cases h2 : b = a
    · subst h2; rw [del_same, h]
    · rw [del_ne h2]
/-- the raised error's end -/
theorem raise_end {K : PySem.W.Frag} {mg : Str → Option Value} {σ : L2.St} {ι : Em} {H : Hp} {S : Sto} {env : Env} {fs : List (Str × D)} {Dn : Ends} {us : List V} {a dx : Addr} (p : PostS K mg W ι H (.ex c fs env S) Dn) (s : Sr K H ι S) (er : Er K H ι σ env) (hm : mg c = some (.ref C)) (ha : H a = none) (hd : H dx = none) (hda : dx ≠ a)
    (r : Rps K H ι us (fs.map (·.2))) {gs : List (Str × V)} (hg : gs = (fs.map (·.1)).zip us) : W (.ref C) (some dx) σ (upd (del H a) dx (.xd gs)) := by
  subst hg
  rw [del_new ha hda]
  exact p ι _ σ dx C us (Ext.new hd) (s.new hd) (er.ext (Ext.new hd)) hm upd_same (s.out hd) (r.ext (Ext.new hd))
theorem s_raise1 {f : Str} (T : ErrC X.K X.mg c C [f]) (iC : PySem.W.findIn X.K (.ref C) "__init__" = some (some (.ref fI))) (tI : PySem.W.typeIn X.K (.ref fI) = some (.type "function"))
    (F1 : FnOk X.prog X.w X.K X.mg X.base (L2N.CX X.prog X.w) k fI fd ps (spI1 X.K C f)) (hr : Room (k + 1) X.A) (hb : Binds X.K fd ps []) (tk : L2N.Takes X W) (ha : AA X W (e :: es) da) (hc : X.calm = true := by rfl) (hg : Gl X c := by rfl)
    (hdb : (c == ("__debug__" : Str)) = false := by decide) (he : starEach (e :: es) X.env = (false, eval e X.env) :: starEach es X.env := by rfl) (hpl : (backTo pos (starEach es X.env)).any (·.1) = false := by rfl) :
    SS X W (.Raise (some (.Call (.Name c p) (e :: es) [] pos)) none pos2) (sRaise c [f] da) := PS.imp (L2N.ps_raise hc tk (pmkN_oex T.oex iC tI F1 hr hb passN hg T.gl ha hdb he hpl)) fun Dn σ H h => by
  obtain ⟨ι, env, S, s, er, p⟩ := h
  refine ⟨ι, env, S, s, er, (PostS.lift (Rel := Rps X.K) p er).mono ?_⟩
  rintro vs H1 ⟨ι1, ds, S1, e1, s1, r1, p1⟩
  split at p1
  · rename_i hl
    match ds, hl, r1 with
    | [d], _, r1 =>
      obtain ⟨y, rfl, ry⟩ := rps1 r1
      refine ⟨by simp, fun a hna => ⟨a, y, rfl, T.oex, T.no f (by simp), upd_same, fun dx h1 h2 => ⟨rfl, dx, [(f, y)], upd_same, ?_, ?_, ?_⟩⟩⟩
      · rw [upd_ne h2, upd_same]
      · rw [upd_ne h2] at h1; exact h1
      · rw [upd_ne h2] at h1
        have e3 : upd (del (upd (upd (upd H1 a (exo a C none)) dx (exd dx [(f, y)])) a (exo a C (some dx))) a) dx (.xd [(f, y)]) = upd (del H1 a) dx (.xd [(f, y)]) := by
          funext b
          by_cases hb : b = dx
          · subst hb; rw [upd_same, upd_same]
          · rw [upd_ne hb, upd_ne hb]
            by_cases h3 : b = a
            · subst h3; rw [del_same, del_same]
            · rw [del_ne h3, del_ne h3, upd_ne h3, upd_ne hb, upd_ne h3]
        rw [e3]
        exact raise_end p1 s1 (er.ext e1) T.gl hna h1 h2 (.cons ry .nil) rfl
  · exact p1.elim
theorem s_raise2 {f g : Str} (T : ErrC X.K X.mg c C [f, g]) (iC : PySem.W.findIn X.K (.ref C) "__init__" = some (some (.ref fI))) (tI : PySem.W.typeIn X.K (.ref fI) = some (.type "function"))
    (F1 : FnOk X.prog X.w X.K X.mg X.base (L2N.CX X.prog X.w) k fI fd ps (spI2 X.K C f g)) (hr : Room (k + 1) X.A) (hb : Binds X.K fd ps []) (tk : L2N.Takes X W) (ha : AA X W (e :: es) da) (hc : X.calm = true := by rfl) (hg : Gl X c := by rfl)
    (hdb : (c == ("__debug__" : Str)) = false := by decide) (he : starEach (e :: es) X.env = (false, eval e X.env) :: starEach es X.env := by rfl) (hpl : (backTo pos (starEach es X.env)).any (·.1) = false := by rfl) :
    SS X W (.Raise (some (.Call (.Name c p) (e :: es) [] pos)) none pos2) (sRaise c [f, g] da) := PS.imp (L2N.ps_raise hc tk (pmkN_oex T.oex iC tI F1 hr hb passN hg T.gl ha hdb he hpl)) fun Dn σ H h => by
  obtain ⟨ι, env, S, s, er, p⟩ := h
  refine ⟨ι, env, S, s, er, (PostS.lift (Rel := Rps X.K) p er).mono ?_⟩
  rintro vs H1 ⟨ι1, ds, S1, e1, s1, r1, p1⟩
  split at p1
  · rename_i hl
    match ds, hl, r1 with
    | [d, d2], _, r1 =>
      obtain ⟨y, z, rfl, ry, rz⟩ := rps2 r1
      refine ⟨by simp, fun a hna => ⟨a, y, z, rfl, T.oex, T.no f (by simp), T.no g (by simp), upd_same, fun dx h1 h2 => ⟨rfl, dx, [(g, z), (f, y)], ?_, upd_same, ?_, ?_⟩⟩⟩
      · rw [upd_ne (Ne.symm h2), upd_same]
      · rw [upd_ne h2] at h1; exact h1
      · rw [upd_ne h2] at h1
        have e3 : upd (del (upd (upd (upd (upd H1 a (exo a C none)) dx (exd dx [(f, y)])) a (exo a C (some dx))) dx (exd dx [(g, z), (f, y)])) a) dx (.xd [(g, z), (f, y)]) = upd (del H1 a) dx (.xd [(g, z), (f, y)]) := by
          funext b
          by_cases hb : b = dx
          · subst hb; rw [upd_same, upd_same]
          · rw [upd_ne hb, upd_ne hb]
            by_cases h3 : b = a
            · subst h3; rw [del_same, del_same]
            · rw [del_ne h3, del_ne h3, upd_ne hb, upd_ne h3, upd_ne hb, upd_ne h3]
        rw [e3]
        exact raise_end p1 s1 (er.ext e1) T.gl hna h1 h2 (.cons rz (.cons ry .nil)) rfl
  · exact p1.elim
end

/-! ### try: .. except c as n: .. -/
open Classical in
noncomputable def collapse (k : Addr → Addr → F) : F := if h : ∃ f, ∀ a d, k a d = f then Classical.choose h else .bad
theorem collapse_const (f : F) : collapse (fun _ _ => f) = f := by
  unfold collapse
  have h : ∃ g : F, ∀ _ _ : Addr, f = g := ⟨f, fun _ _ => rfl⟩
  rw [dif_pos h]
  exact (Classical.choose_spec h 0 0).symm
def endX (i : Nat) (f : F) : F := match f with
  | .nx e S => .nx (e.set i none) S
  | .bk e S => .bk (e.set i none) S
  | .ct e S => .ct (e.set i none) S
  | .rt d S => .rt d S
  | _ => .bad
noncomputable def sTry (c : Str) (i : Nat) (body : SDen) (h : Addr → Addr → SDen) : SDen := fun env S => match body env S with
  | .ex c' fs e S' => if c' = c then collapse fun a dd => endX i (h a dd (e.set i (some (.err a dd (fs.map (·.1)) (fs.map (·.2))))) S') else .bad
  | f => f
def dXf (a dd : Addr) (f : Str) (d : Den) : Den := fun env S => (d env S).bind fun x S1 => match x with
  | .err a' dd' ks ds => if a' = a ∧ dd' = dd then (match (ks.zip ds).lookup f with
    | some v => .ok v S1
    | none => .bad) else .bad
  | _ => .bad
def dXis (a dd : Addr) (b : Bool) (d : Den) : Den := fun env S => (d env S).bind fun x S1 => match x with
  | .err a' dd' _ _ => if a' = a ∧ dd' = dd then .ok (.bl b) S1 else .bad
  | _ => .bad
section
variable {K : PySem.W.Frag} {mg : Str → Option Value} {W : WX} {ι : Em} {H : Hp} {Dn : Ends}
theorem PostS.collapse {k : Addr → Addr → F} (h : PostS K mg W ι H (Z.collapse k) Dn) (a d : Addr) : PostS K mg W ι H (k a d) Dn := by
  unfold Z.collapse at h
  split at h
  · rename_i g
    rw [Classical.choose_spec g a d]; exact h
  · exact h.elim
theorem PostS.endX {W' : WX} {i : Nat} {f : F} (h : PostS K mg W ι H (Z.endX i f) Dn) :
    PostS K mg W' ι H f { nx := fun σ' H' => Dn.nx (σ'.set i none) H', rt := Dn.rt, bk := fun σ' H' => Dn.bk (σ'.set i none) H', ct := fun σ' H' => Dn.ct (σ'.set i none) H' } := by
  cases f with
  | nx e S' => exact fun ι2 H2 σ' e2 s2 r2 => h ι2 H2 _ e2 s2 r2.unset
  | bk e S' => exact fun ι2 H2 σ' e2 s2 r2 => h ι2 H2 _ e2 s2 r2.unset
  | ct e S' => exact fun ι2 H2 σ' e2 s2 r2 => h ι2 H2 _ e2 s2 r2.unset
  | rt d S' => exact h
  | ex c fs e S' => exact h.elim
  | bad => exact h.elim
theorem look_rp : ∀ {ks : List Str} {ds : List D} {us : List V} {f : Str} {d : D}, Rps K H ι us ds → (ks.zip ds).lookup f = some d → ∃ v, (ks.zip us).lookup f = some v ∧ Rp K H ι v d
  | [], _, _, _, _, _, e => by simp at e
  | k :: ks, [], _, _, _, _, e => by simp at e
  | k :: ks, d :: ds, _, f, d', r, e => by
    cases r with
    | cons r rs =>
      rw [List.zip_cons_cons, List.lookup_cons] at e
      rw [List.zip_cons_cons, List.lookup_cons]
      by_cases hf : (f == k) = true
      · rw [hf] at e ⊢; cases e; exact ⟨_, rfl, r⟩
      · have hf' : (f == k) = false := by simpa using hf
        rw [hf'] at e ⊢; exact look_rp rs e
end
section
variable {X : Cx} {W : WX} {c n : Str} {C : Addr} {i : Nat} {ks : List Str} {body suite : List Stmt} {b₀ : Stmt} {np pos pos' : Pos} {db : SDen} {h : Addr → Addr → SDen}
theorem s_try (hN : X.N.Nodup) (T : ErrC X.K X.mg c C ks) (exm : PySem.W.exmOne X.K (.ref C) (.ref C) = some true) (tk : L2N.Takes X W)
    (hb : ∀ (W' : WX) (pn : List (Addr × Obj)) (xe : Value → Shared → Prop), L2N.Takes (X.tr pn xe) W' → PassesOwn (model X.prog X.w) X.A X.env xe → SSs (X.tr pn xe) W' body db)
    (hsu : ∀ (a : Addr) (oe : Obj) (dd : Addr) (pn : List (Addr × Obj)), Zc (.ref C) (some dd) oe → (∃ vs, oe.data = .fields vs) → L2H.HotC (X.suite a ((a, oe) :: pn)) → PSs (X.suite a ((a, oe) :: pn)) (b₀ :: suite) (rdS X.K X.mg W0 (h a dd)))
    (hs : X.stack = X.env :: X.outer := by rfl) (hf : X.env.frame = some X.env.locals := by rfl) (hi : X.N[i]? = some n := by rfl) (hln : X.env.kindOf n = some .local := by rfl) (hg : Gl X c := by rfl) (hdb : (c == ("__debug__" : Str)) = false := by decide) :
    SS X W (.Try body [.ExceptHandler (some (.Name c np)) (some n) (b₀ :: suite) pos'] [] [] pos) (sTry c i db h) := by
  have hz := L2N.ps_try_as (X := X) (x := c) (n := n) (c := .ref C) (i := i) (body := body) (suite := suite) (b₀ := b₀) (np := np) (pos := pos) (pos' := pos') (tb := fun W' => rdS X.K X.mg W' db)
    (ts := fun a cls d => fun Dn σ H => ∃ dd, cls = .ref C ∧ d = some dd ∧ rdS X.K X.mg W0 (h a dd) Dn σ H) (Wout := W) hs hf hN hi hln ⟨hg, hdb, .inl T.gl⟩ tk (fun W' pn xe t p => hb W' pn xe t p)
    (fun a oe cls d pn z v => ⟨fun pins s σ H Dn I q => by
      obtain ⟨dd, rfl, rfl, q⟩ := q
      exact (hsu a oe dd pn z.zc v ⟨(a, oe), ⟨rfl, v.choose, v.choose_spec, z.2.2 _ v.choose_spec⟩, List.mem_cons_self⟩).run pins s σ H Dn I q⟩)
  refine PS.imp hz fun Dn σ H q => ?_
  obtain ⟨ι, env, S, s, er, p⟩ := q
  refine ⟨ι, env, S, s, er, ?_⟩
  unfold sTry at p
  cases q : db env S with
  | ex c' fs e S' =>
    rw [q] at p
    simp only at p
    intro ι' H' σ' dd C' us e1 s1 er1 hm hd hn rus
    split at p
    · rename_i ec
      subst ec
      have eC : C' = C := by rw [T.gl] at hm; cases hm; rfl
      subst eC
      refine ⟨true, exm, fun _ a ha => ⟨dd, rfl, rfl, ι', _, S', s1, er1.set (.err (a := a) hn hd rus), ?_⟩, fun z => by cases z⟩
      exact ((p.collapse a dd).endX).ext e1 s1
    · exact p.elim
  | nx _ _ => rw [q] at p; exact p
  | bk _ _ => rw [q] at p; exact p
  | ct _ _ => rw [q] at p; exact p
  | rt _ _ => rw [q] at p; exact p
  | bad => rw [q] at p; exact p
theorem e_xf {a dd : Addr} {oe : Obj} {pn : List (Addr × Obj)} {f : Str} {e : Expr} {d : Den} (T : ErrC X.K X.mg c C ks) (hfk : f ∈ ks) (hz : Zc (.ref C) (some dd) oe) (hv : ∃ vs, oe.data = .fields vs) (he : PE (X.suite a ((a, oe) :: pn)) e (rd X.K X.mg W0 d))
    (hb : attributeBase e f X.env (eval e X.env) = eval e X.env := by rfl) : PE (X.suite a ((a, oe) :: pn)) (.Attribute e f pos) (rd X.K X.mg W0 (dXf a dd f d)) := PE.imp (pe_xf T.xf (T.no f hfk) hz hv he hb) fun σ H Q h => by
  obtain ⟨ι, env, S, s, er, p⟩ := h
  refine ⟨ι, env, S, s, er, (Post.bind (Rel' := Rp X.K) p).mono ?_⟩
  rintro x H1 ⟨ι1, dx, S1, e1, s1, r1, p1⟩
  split at p1
  · rename_i a' dd' ks' ds
    split at p1
    · rename_i ha
      obtain ⟨rfl, rfl⟩ := ha
      cases r1 with
      | err hn hd rs =>
        split at p1
        · rename_i v ev
          obtain ⟨u, eu, ru⟩ := look_rp rs ev
          exact ⟨rfl, rfl, _, _, u, rfl, hd, eu, p1.ret s1 ru⟩
        · exact p1.elim
    · exact p1.elim
  · exact p1.elim
theorem kit_err {x : Addr} {ox : Obj} {od : Option Obj} {K : PySem.W.Frag} {mg : Str → Option Value} (T : ErrC K mg c C ks) : PySem.W.KitX K (.ref x) (.ref C) (fun h => PySem.W.InstAt h x ox C od) := PySem.W.kitx_exc T.cl T.xf.ga T.xf.gg T.xf.exC T.ca T.cn T.ct T.cm
def rIsX (K : PySem.W.Frag) (C a dd : Addr) : List V → Hp → VK → Prop := fun xs H Q => ∃ (v : V) (cv : Value) (b : Bool) (gs : List (Str × V)), xs = [.ref a, v] ∧ (∀ u, RelV v u → u = cv) ∧ PySem.W.kitOne K (.ref C) cv = some b ∧ H dd = some (.xd gs) ∧ Q (.bl b) H
theorem call_isX {a dd : Addr} {oe : Obj} {pn : List (Addr × Obj)} (T : ErrC X.K X.mg c C ks) (hz : Zc (.ref C) (some dd) oe) (hf : ∃ vs, oe.data = .fields vs) : CallR (X.suite a ((a, oe) :: pn)) (.builtin "isinstance") (rIsX X.K C a dd) := by
  rintro pins s σ H _ us Q I r ⟨v, cv, b, gs, rfl, hcv, hk, hd, q⟩
  obtain ⟨u1, u2, rfl, r1, r2⟩ := vals2 r
  cases (show u1 = Value.ref a from r1)
  cases hcv _ r2
  have hat := (I.pin (a, oe) (List.mem_append.mpr (.inl List.mem_cons_self))).1
  obtain ⟨vs, hvs⟩ := hf
  have hx : ObjOk X.prog X.w H s.heap dd (.xd gs) := I.hok dd _ hd
  obtain ⟨mA, hns, hr⟩ := hx
  obtain ⟨od, ho, hl⟩ := lookIn_ns hns
  have J : PySem.W.InstAt s.heap a oe C (some od) := ⟨hat, hz.1, by unfold PySem.W.notCls; rw [hvs] <;> rfl, (by rw [hz.2]; exact ho)⟩
  exact PySem.W.kia_one (kit_err T) I.kIn J hk (fun z => nomatch z) fun tk' => ⟨.bl b, H, I.kept (t' := tk') (fun _ _ z => z), rfl, q⟩
theorem rd_isX {K : PySem.W.Frag} {mg : Str → Option Value} {a dd : Addr} {b : Bool} {d : Den} {v : V} {cv : Value} (hcv : ∀ u, RelV v u → u = cv) (hk : PySem.W.kitOne K (.ref C) cv = some b) {σ : L2.St} {H : Hp} {Q : VK} (q : rd K mg W0 (dXis a dd b d) σ H Q) :
    tCB (rIsX K C a dd) (tCons (rd K mg W0 d) (tCons (tC v) tNil)) σ H Q := by
  obtain ⟨ι, env, S, s, er, p⟩ := q
  refine ⟨ι, env, S, s, er, (Post.bind (Rel' := Rp K) p).mono ?_⟩
  rintro x H1 ⟨ι1, dx, S1, e1, s1, r1, p1⟩
  split at p1
  · split at p1
    · rename_i ha
      obtain ⟨rfl, rfl⟩ := ha
      cases r1 with
      | err hn hd rs => exact ⟨v, cv, b, _, rfl, hcv, hk, hd, p1.ret s1 (.bl _)⟩
    · exact p1.elim
  · exact p1.elim
/-- isinstance(e, C2), C2 an error class of the program's | a built-in one -/
theorem e_isX {a dd C2 : Addr} {oe : Obj} {pn : List (Addr × Obj)} {e : Expr} {d : Den} {x : Str} {p q : Pos} {b : Bool} (T : ErrC X.K X.mg c C ks) (hz : Zc (.ref C) (some dd) oe) (hf : ∃ vs, oe.data = .fields vs) (hm : X.mg "isinstance" = none) (hx : X.mg x = some (.ref C2)) (hk : PySem.W.kitOne X.K (.ref C) (.ref C2) = some b)
    (he : PE (X.suite a ((a, oe) :: pn)) e (rd X.K X.mg W0 d)) (hg : Gl X "isinstance" := by rfl) (hg2 : Gl X x := by rfl) (hd : (x == ("__debug__" : Str)) = false := by decide)
    (hs : starEach [e, .Name x q] X.env = (false, eval e X.env) :: starEach [.Name x q] X.env := by rfl) (hs2 : starEach [.Name x q] X.env = (false, eval (.Name x q) X.env) :: starEach [] X.env := by rfl) (hpl : (backTo pos (starEach [.Name x q] X.env)).any (·.1) = false := by rfl) :
    PE (X.suite a ((a, oe) :: pn)) (.Call (.Name "isinstance" p) [e, .Name x q] [] pos) (rd X.K X.mg W0 (dXis a dd b d)) :=
  PE.imp (pe_callB (X := X.suite a ((a, oe) :: pn)) (call_isX T hz hf) hg hm (by decide +kernel) (pa_cons he (pa_cons (pe_glob (v := .ref C2) hg2 hx rfl hd) pa_nil hs2) hs) (by decide) (by decide) hs hpl) fun σ H Q z => rd_isX (v := .ref C2) (cv := .ref C2) (fun _ z => z) hk z
theorem e_isXB {a dd : Addr} {T' : String} {oe : Obj} {pn : List (Addr × Obj)} {e : Expr} {d : Den} {x : Str} {p q : Pos} {b : Bool} (T : ErrC X.K X.mg c C ks) (hz : Zc (.ref C) (some dd) oe) (hf : ∃ vs, oe.data = .fields vs) (hm : X.mg "isinstance" = none) (hx : X.mg x = none) (hv : bootBuiltins x = some (.type T')) (hk : PySem.W.kitOne X.K (.ref C) (.type T') = some b)
    (he : PE (X.suite a ((a, oe) :: pn)) e (rd X.K X.mg W0 d)) (hg : Gl X "isinstance" := by rfl) (hg2 : Gl X x := by rfl) (hn : x ≠ "__name__" := by decide) (hd : (x == ("__debug__" : Str)) = false := by decide)
    (hs : starEach [e, .Name x q] X.env = (false, eval e X.env) :: starEach [.Name x q] X.env := by rfl) (hs2 : starEach [.Name x q] X.env = (false, eval (.Name x q) X.env) :: starEach [] X.env := by rfl) (hpl : (backTo pos (starEach [.Name x q] X.env)).any (·.1) = false := by rfl) :
    PE (X.suite a ((a, oe) :: pn)) (.Call (.Name "isinstance" p) [e, .Name x q] [] pos) (rd X.K X.mg W0 (dXis a dd b d)) :=
  PE.imp (pe_callB (X := X.suite a ((a, oe) :: pn)) (call_isX T hz hf) hg hm (by decide +kernel) (pa_cons he (pa_cons (pe_bltn (v := .ty T') hg2 hx hv rfl hn hd) pa_nil hs2) hs) (by decide) (by decide) hs hpl) fun σ H Q z => rd_isX (v := .ty T') (cv := .type T') (fun _ z => z) hk z
end
end
end Z
end

section
set_option Elab.async false
set_option linter.all false
set_option maxRecDepth 100000
set_option maxHeartbeats 1000000
namespace Z
noncomputable section
open PySem PySem.Spec PyProof.Rows L2

/-! ### defs that are called by place alone (a star parameter) -/
def spOfR (K : PySem.W.Frag) (mg : Str → Option Value) (f : FD) : Sp := fun vs H Q E => ∃ ι ds S, Sr K H ι S ∧ Rps K H ι vs ds ∧ Post K mg (Rp K) (fun c d _ H => E c d H) [] ι H (f ds S) Q
abbrev FnY (P : Program) (w : World) (K : PySem.W.Frag) (mg : Str → Option Value) (base : Heap) (k : Nat) (f : Addr) (F : FD) : Prop := FnR P w K mg base (L2N.CX P w) k f (spOfR K mg F)
def starF (n : Nat) (F : FD) : FD := fun ds S => if n ≤ ds.length ∧ Fit ds.length then F (ds.take n ++ [.tup (ds.drop n)]) S else .bad
section
variable {P : Program} {w : World} {K : PySem.W.Frag} {mg : Str → Option Value} {base : Heap}
theorem ub_un {fs : List Addr} {H H2 H' : Hp} {g g2 B g' : Heap} (un : Un fs [] H H2 g g2) (kp : ∀ b o, g.get? b = some o → g2.get? b = some o) (ub : UB fs H2 H' g2 B g') : UB fs H H' g B g' where
  keep b o q n hb :=
    ub.keep b o (kp b o q) (un.free b o q n List.not_mem_nil) hb
  slot b o q hb := ub.slot b o (kp b o q) hb
  free b o q n :=
    ub.free b o (kp b o q) (un.free b o q n List.not_mem_nil)
  there b o q hb := ub.there b o (kp b o q) hb
  tups b xs q := ub.tups b xs (un.tups b xs q)
  frzs b o xs q := ub.frzs b o xs (un.frzs b o xs q)
  tbls b ps q := by
    obtain ⟨n1, h1⟩ := un.tbls b ps q
    obtain ⟨n2, h2⟩ := ub.tbls b _ h1
    refine ⟨n1 ++ n2, ?_⟩
    rw [h2, Array.append_assoc]
theorem cxUpN {P : Program} {w : World} : StX.CXUp (L2N.CX P w) := fun outer s H s2 H2 E e s' un kp ho z => by
  obtain ⟨a, B, H', cls, d, ea, fl, hok, ub, na, os, ag, he⟩ := z
  exact ⟨a, B, H', cls, d, ea, fl, hok, ub_un un kp ub, na, os.trans ho, ag, he⟩
theorem fn_okY {x qual : Str} {st : Stmt} {f : Addr} {fd : FuncData} {N ps : List Str} {pv : Str} {k : Nat} {body : SDen} (F : Fun K x qual st f fd) (S : FnScope N (ps ++ [pv]) (defScope st)) (hN : ps.length + 1 ≤ N.length)
    (hbd : ∀ (kV doc pm : Value) (an : Option Addr) (cdv ct : Value) (us rest : List Value), us.length = ps.length → bindArgs (PySem.W.fnOf x qual (defArgs st) (defBody st) (defScope st) .none kV doc pm an cdv ct) ⟨us ++ rest, []⟩ = (newTuple rest >>= fun t => pure (ps.zip us ++ [(pv, t)])))
    (hb : ∀ (cdv : Value) (A : Around) (outer : List PySem.Env) (s : Shared) (H : Hp) (E : XK), Room k (A.deeper (envOfC qual (defScope st) s.heap.objs.size f cdv)) →
      L2N.Takes (cxOf (L2N.CX P w) P w K mg base N qual (defScope st) f cdv A outer s H E) (wE E) → SSs (cxOf (L2N.CX P w) P w K mg base N qual (defScope st) f cdv A outer s H E) (wE E) (defBody st) body) :
    FnY P w K mg base (k + 1) f (starF ps.length (fnF N.length body)) := by
  obtain ⟨oc, od, kV, doc, pm, an, cdv, ct, osl, rfl, lk, hcd⟩ := F.ex
  refine FnR.imp (StX.fn_star (sp := spOf K mg (ps.length + 1) (fnF N.length body)) lk hcd S cxUpN (hbd kV doc pm an cdv ct) fun A outer s H vs Q E hr h => ⟨_, hb cdv A outer s H E hr (L2N.takes_of rfl rfl rfl rfl), ?_⟩) fun vs H Q E h => ?_
  · obtain ⟨hl, ι, ds, S0, sr, r, p⟩ := h
    refine ⟨ι, _, S0, sr, er_start r (by rw [hl]; exact hN), ?_⟩
    unfold fnF at p
    show PostS K mg (wE E) ι H (body (ds.map some ++ List.replicate (N.length - ds.length) none) S0) _
    cases q : body (ds.map some ++ List.replicate (N.length - ds.length) none) S0 with
    | nx e S' => rw [q] at p; exact fun ι' H' σ' e1 s1 _ => p ι' H' .non e1 s1 .non
    | rt d S' => rw [q] at p; exact p
    | ex c fs e S' => rw [q] at p; exact fun ι' H' σ' dd C gs e1 s1 _ => p ι' H' dd C gs e1 s1
    | bk e S' => rw [q] at p; exact p.elim
    | ct e S' => rw [q] at p; exact p.elim
    | bad => rw [q] at p; exact p.elim
  · obtain ⟨ι, ds, S0, sr, r, p⟩ := h
    unfold starF at p
    split at p
    · rename_i hl
      refine ⟨vs.take ps.length, vs.drop ps.length, (List.take_append_drop _ _).symm, ?_, ?_, fun pa hp => ⟨?_, ι, _, S0, sr.new hp, ((r.take _).ext (Ext.new hp)).append (.cons (.tup (sr.out hp) upd_same ((r.drop ps.length).ext (Ext.new hp))) .nil), ?_⟩⟩
      · rw [List.length_take, r.length]; omega
      · rw [List.length_drop, r.length]; have := hl.2; unfold Fit at this; omega
      · rw [List.length_append, List.length_take, r.length]; simp; omega
      · exact p.ext (Ext.new hp) (sr.new hp)
    · exact p.elim
end
def dCallY (F : FD) (a : DenA) : Den := fun env S => (a env S).bind F
section
variable {X : Cx} {W : WX} {k : Nat} {f : Addr} {F : FD} {x : Str} {p pos : Pos} {e : Expr} {es : List Expr} {da : DenA}
theorem run_Y {pins : List (Addr × Obj)} {σ : L2.St} {H : Hp} {s : Shared} {Q : VK} {us : List Value} {vs : List V} (Fk : FnY X.prog X.w X.K X.mg X.base k f F) (hr : Room k X.A) (tk : L2N.Takes X W) (I : Inv X pins σ H s) (r : Vals vs us) (h : spOfR X.K X.mg F vs H Q (WE W σ)) :
    wpAny (model X.prog X.w) X.A (call (.ref f) us) (EP X pins σ Q) X.xe s := by
  refine wpAny_call (codeAny_mono (Fk X.A X.stack s H us vs Q (WE W σ) hr I.env0 r h) fun q s' hq => ?_)
  match q, hq with
  | .error e, hq => exact L2N.passAt tk σ pins H s e s' I hq
  | .ok (.ret u), hq => exact I.after hq
/-- f(e, ..) -/
theorem e_callY (Fk : FnY X.prog X.w X.K X.mg X.base k f F) (hr : Room k X.A) (hm : X.mg x = some (.ref f)) (hk : PySem.W.keepIn X.K (.ref f) = true) (tk : L2N.Takes X W) (ha : AA X W (e :: es) da) (hg : Gl X x := by rfl) (hd : (x == ("__debug__" : Str)) = false := by decide)
    (he : starEach (e :: es) X.env = (false, eval e X.env) :: starEach es X.env := by rfl) (hpl : (backTo pos (starEach es X.env)).any (·.1) = false := by rfl) : EE X W (.Call (.Name x p) (e :: es) [] pos) (dCallY F da) := by
  refine ⟨fun pins s σ H Q I h => wpAny_Call_Name_kw (ld_glob I hg hm ?_ hd)⟩
  obtain ⟨ι, env, S, s0, er, q⟩ := h
  have ha' := ha.run pos pins s σ H (fun vs H1 => spOfR X.K X.mg F vs H1 Q (WE W σ)) I ⟨ι, env, S, s0, er, (Post.bind (Rel' := Rps X.K) q).mono (by
    rintro xs H1 ⟨ι1, ds, S1, e1, s1, r1, p1⟩
    exact ⟨ι1, ds, S1, s1, r1, Post.wish (E := WE W σ) p1 fun _ _ _ h => h⟩)⟩
  exact PySem.W.callWith_K (h₀ := X.base) I.ok.mod.kin hk (thn ha' fun us s1 ⟨vs, H1, I1, r, q⟩ => ⟨I1.kIn, run_Y Fk hr tk I1 r q⟩) he hpl
/-- f() -/
theorem e_callY0 (Fk : FnY X.prog X.w X.K X.mg X.base k f F) (hr : Room k X.A) (hm : X.mg x = some (.ref f)) (hk : PySem.W.keepIn X.K (.ref f) = true) (tk : L2N.Takes X W) (hg : Gl X x := by rfl) (hd : (x == ("__debug__" : Str)) = false := by decide) :
    EE X W (.Call (.Name x p) [] [] pos) (dCallY F aNil) := by
  refine ⟨fun pins s σ H Q I h => wpAny_Call_Name_kw (ld_glob I hg hm ?_ hd)⟩
  obtain ⟨ι, env, S, s0, er, q⟩ := h
  exact PySem.W.callWith_K0 I.kIn hk (run_Y (us := []) Fk hr tk I .nil ⟨ι, [], S, s0, .nil, Post.wish (E := WE W σ) q fun _ _ _ h => h⟩)
end

/-! ### two targets at once -/
def sPar (i j : Nat) (a : DenA) : SDen := fun env S => (a env S).lift env fun ds S1 => match ds with
  | [x, y] => .nx ((env.set i (some x)).set j (some y)) S1
  | _ => .bad
section
variable {X : Cx} {W : WX} {a b : Expr} {da : DenA} {x y : Str} {i j : Nat} {px py pt pt2 pos : Pos} {kt k2 : Nat}
theorem rd_par {K : PySem.W.Frag} {mg : Str → Option Value} {Dn : Ends} {σ : L2.St} {H : Hp} (h : rdS K mg W (sPar i j da) Dn σ H) : tPar i j (rdA K mg W da) Dn σ H := by
  obtain ⟨ι, env, S, s, er, p⟩ := h
  refine ⟨ι, env, S, s, er, (PostS.lift (Rel := Rps K) p er).mono ?_⟩
  rintro vs H1 ⟨ι1, ds, S1, e1, s1, r1, p1⟩
  split at p1
  · obtain ⟨v, w, rfl, r, r2⟩ := rps2 r1
    exact ⟨v, w, rfl, p1.nx s1 (((er.ext e1).set r).set r2)⟩
  · exact p1.elim
end

/-! ### the law's end -/
/-- what is wanted of the law's def: called upon the script it hands back True -/
def spLaw (K : PySem.W.Frag) : Sp := fun vs H Q _ => ∃ (a : Addr) (ns : List Int), vs = [.ref a] ∧ ns.length ≤ 63 ∧ (∀ z ∈ ns, Builtin.Int.intBits z ≤ 1048576) ∧ Only H ∧ SqL K H a (ns.map V.int) ∧ ∀ H', Q (.bl true) H'
def Holds (F : FD) : Prop := ∀ ns : List Int, ns.length ≤ 63 → (∀ z ∈ ns, Builtin.Int.intBits z ≤ 1048576) → ∃ S', F [.frz (ns.map D.int)] [] = .ok (.bl true) S'
theorem law_sp {K : PySem.W.Frag} {mg : Str → Option Value} {F : FD} (hF : Holds F) (vs : List V) (H : Hp) (Q : VK) (E : XK) (h : spLaw K vs H Q E) : spOf K mg 1 F vs H Q E := by
  obtain ⟨a, ns, rfl, hl, hb, hO, hS, q⟩ := h
  obtain ⟨S', e⟩ := hF ns hl hb
  have rs : ∀ ns : List Int, Rps K H ⟨[], []⟩ (ns.map V.int) (ns.map D.int) := fun ns => by
    induction ns with
    | nil => exact .nil
    | cons n ns ih => exact .cons (.int n) ih
  have nh : ¬ (⟨[], []⟩ : Em).has a := fun z => by rcases z with z | z <;> cases z
  refine ⟨rfl, ⟨[], []⟩, [.frz (ns.map D.int)], [], ⟨rfl, List.nodup_nil, (fun b hb => nomatch hb), (fun n a c h => nomatch h)⟩, .cons ?_ .nil, ?_⟩
  · rcases hS with (h | ⟨o, h⟩) | h
    · rcases hO a with z | ⟨o, xs, z⟩
      · rw [z] at h; cases h
      · rw [z] at h; cases h
    · exact .frz nh h (rs ns)
    · exact .frzK h (rs ns)
  · rw [e]
    intro ι' H' v _ _ r
    cases r
    exact q H'
theorem walk_Z {l : PySem.W.OpenLaw} {q : Program} {loose : List Str} {XP : (Str → Option Value) → Heap → Prop} {YP : World → Heap → Prop} {d : DefRec} {K : Params → PySem.W.Frag} {k : Nat} (hn : l.most = some 63) (hdf : d.params.defaults = []) (hr : Room k callerA)
    (hY : ∀ (w : World) (h : Heap), YP w h → (K w.params).In h)
    (F : ∀ (w : World) (mg : Str → Option Value) (fa : Addr) (h : Heap), (K w.params).In h → h.Ns mainGlobals mg → mg d.name = some (.ref fa) →
      ∃ fd : FuncData, (∀ (s : Shared) (v : Value), BindsTo s fd ⟨[v], []⟩ [("script", v)]) ∧ ∀ base : Heap, (K w.params).In base → base.Ns mainGlobals mg → FnOk l.prog w (K w.params) mg base (L2N.CX l.prog w) k fa fd ["script"] (spLaw (K w.params))) :
    PySem.W.WalkO q loose XP YP l.row.toRowW d [] (fun f vs => PySem.call f vs) :=
  L2.walk_ofB (n := 63) (k := k) (x := "script") (CX := fun w => L2N.CX l.prog w) (sp := fun w => spLaw (K w.params)) hn (by decide) hdf hr hY F (fun w H a ns hl hb hO hS => ⟨a, ns, rfl, hl, hb, hO, hS, fun _ => rfl⟩) fun w H s e s' z => by
    obtain ⟨_, _, _, _, _, _, _, _, _, _, _, _, z⟩ := z
    exact z
end
end Z
end

section
set_option Elab.async false
set_option linter.all false
set_option maxRecDepth 100000
set_option maxHeartbeats 1000000
namespace Z
noncomputable section
open PySem PySem.Spec PyProof.Rows L2
/-- a body that was walked gives its promise -/
theorem fn_fin {K : PySem.W.Frag} {mg : Str → Option Value} {body : SDen} {N : List Str} {n : Nat} {vs : List V} {H : Hp} {Q : VK} {E : XK} (hN : n ≤ N.length) (h : spOf K mg n (fnF N.length body) vs H Q E) : rdS K mg (wE E) body { nx := fun _ H' => Q .non H', rt := Q } (L2.start N vs) H := by
  obtain ⟨hl, ι, ds, S0, sr, r, p⟩ := h
  refine ⟨ι, _, S0, sr, er_start r (by rw [hl]; exact hN), ?_⟩
  unfold fnF at p
  cases q : body (ds.map some ++ List.replicate (N.length - ds.length) none) S0 with
  | nx e S' => rw [q] at p; exact fun ι' H' σ' e1 s1 _ => p ι' H' .non e1 s1 .non
  | rt d S' => rw [q] at p; exact p
  | ex c fs e S' => rw [q] at p; exact fun ι' H' σ' dd C gs e1 s1 _ => p ι' H' dd C gs e1 s1
  | bk e S' => rw [q] at p; exact p.elim
  | ct e S' => rw [q] at p; exact p.elim
  | bad => rw [q] at p; exact p.elim
section
variable {P : Program} {w : World} {K : PySem.W.Frag} {mg : Str → Option Value} {base : Heap}
/-- as fn_ok, for a def with defaults -/
theorem fn_okD {x qual : Str} {st : Stmt} {f : Addr} {fd : FuncData} {N ps : List Str} {k : Nat} {body : SDen} {dvs : List V} {kws : List (Str × V)} (F : FunD K x qual (defArgs st) (defBody st) (defScope st) dvs kws f fd) (S : FnScope N ps (defScope st)) (hN : ps.length ≤ N.length)
    (hb : ∀ (cdv : Value) (A : Around) (outer : List PySem.Env) (s : Shared) (H : Hp) (E : XK), Room k (A.deeper (envOfC qual (defScope st) s.heap.objs.size f cdv)) →
      L2N.Takes (cxOf (L2N.CX P w) P w K mg base N qual (defScope st) f cdv A outer s H E) (wE E) → SSs (cxOf (L2N.CX P w) P w K mg base N qual (defScope st) f cdv A outer s H E) (wE E) (defBody st) body) :
    FnZ P w K mg base (k + 1) f fd ps (fnF N.length body) :=
  F.ok S (fun vs H Q E h => h.1) fun cdv A outer s H vs Q E hr h => ⟨_, hb cdv A outer s H E hr (L2N.takes_of rfl rfl rfl rfl), fn_fin hN h⟩
/-- a def that is never called -/
theorem fn_bad {f : Addr} {fd : FuncData} {ps : List Str} {k : Nat} : FnZ P w K mg base k f fd ps (fun _ _ => .bad) :=
  ⟨fun vs H Q E h => h.1, fun A outer s H args us vs Q E _ _ _ _ h => by
    obtain ⟨_, ι, ds, S, _, _, p⟩ := h
    exact p.elim⟩
end
/-- f(e, .., k = v, ..), which raises nothing -/
def noEx {α : Type} (r : R α) : R α := match r with
  | .ok a S => .ok a S
  | _ => .bad
def dCallK (n m : Nat) (F : FD) (a b : DenA) : Den := fun env S => (a env S).bind fun ds S1 => (b env S1).bind fun es S2 => if ds.length = n ∧ es.length = m then noEx (F (ds ++ es) S2) else .bad
section
variable {K : PySem.W.Frag} {x qual : Str} {params : Arguments} {body : List Stmt} {scope : Scope} {dvs : List V} {kws : List (Str × V)} {f : Addr} {fd : FuncData} {ps ks : List Str} {n : Nat}
/-- every parameter is written, the last ones by their names -/
theorem kbn_of (F : FunD K x qual params body scope dvs kws f fd) (hd : dvs ≠ [])
    (h : ∀ (T : Addr) (kV doc pm : Value) (an : Option Addr) (cdv ct : Value) (us ws its : List Value), us.length = n → ws.length = ks.length → its.length = dvs.length →
      ∃ k, bindArgs (PySem.W.fnOf x qual params body scope (.ref T) kV doc pm an cdv ct) ⟨us, ks.zip ws⟩ = seqItems? (.ref T) >>= k ∧ k (some its.toArray) = pure (ps.zip (us ++ ws))) : KBn K fd ps n ks (fun us ws => us ++ ws) (fun vs zs => vs ++ zs) := by
  obtain ⟨oc, od, dV, kV, doc, pm, an, cdv, ct, osl, rfl, lk, hcd, hD, hK⟩ := F.ex
  rcases hD with ⟨e, _⟩ | ⟨_, T, o, its, m, rfl, lT, oT, rT⟩
  · exact absurd e hd
  · refine ⟨fun s us ws X h1 h2 => ?_, fun r1 r2 => r1.append r2⟩
    obtain ⟨k, e1, e2⟩ := h T kV doc pm an cdv ct us ws its h1 h2 rT.length.symm
    exact BindsTo.of_looks fun M => by rw [e1]; exact looks_items X lT oT (.of_pure e2)
end
section
variable {X : Cx} {W : WX} {k n : Nat} {f : Addr} {fd : FuncData} {ps ks : List Str} {F : FD} {x : Str} {p pos : Pos} {e : Expr} {es : List Expr} {kws : List Keyword} {da db : DenA} {kpos : Pos} {nm : Option Str} {d : Den}
abbrev KK (X : Cx) (W : WX) (kws : List Keyword) (d : DenA) : Prop := PK X kws (rdA X.K X.mg W d)
theorem PK.imp {t t' : TA} (h : PK X kws t) (f : ∀ σ H Q, t' σ H Q → t σ H Q) : PK X kws t' := ⟨fun pos pins s σ H Q I q => h.run pos pins s σ H Q I (f σ H Q q)⟩
theorem k_nil : KK X W [] aNil := PK.imp pk_nil fun σ H Q h => by
  obtain ⟨ι, env, S, s, er, p⟩ := h
  exact p.ret s .nil
theorem k_cons (h : EE X W e d) (hr : KK X W kws da) : KK X W (⟨nm, e, kpos⟩ :: kws) (aCons d da) := PK.imp (pk_cons h hr) fun σ H Q h => by
  obtain ⟨ι, env, S, s, er, p⟩ := h
  refine ⟨ι, env, S, s, er, (Post.bind (Rel' := Rp X.K) p).mono ?_⟩
  rintro x H1 ⟨ι1, dx, S1, e1, s1, r1, p1⟩
  refine ⟨ι1, env, S1, s1, er.ext e1, (Post.bind (Rel' := Rps X.K) p1).mono ?_⟩
  rintro xs H2 ⟨ι2, dxs, S2, e2, s2, r2, p2⟩
  exact p2.ret s2 (.cons (r1.ext e2) r2)
theorem e_callK {m : Nat} (Fk : FnZ X.prog X.w X.K X.mg X.base k f fd ps F) (hr : Room k X.A) (hm : X.mg x = some (.ref f)) (hk : PySem.W.keepIn X.K (.ref f) = true) (hb : KBn X.K fd ps n ks (fun us ws => us ++ ws) (fun vs zs => vs ++ zs)) (ha : AA X W (e :: es) da) (hkw : KK X W kws db) (hm' : ks.length = m := by rfl) (hl : n + m = ps.length := by rfl) (hg : Gl X x := by rfl)
    (hall : (backToKw pos (keywordEach kws X.env)).all (·.1.isSome) = true := by rfl) (hks : (backToKw pos (keywordEach kws X.env)).filterMap (·.1) = ks := by rfl) (hdb : (x == ("__debug__" : Str)) = false := by decide) (he : starEach (e :: es) X.env = (false, eval e X.env) :: starEach es X.env := by rfl)
    (hpl : ((backTo pos (starEach (e :: es) X.env)).any (·.1) || (backToKw pos (keywordEach kws X.env)).any (·.1.isNone)) = false := by rfl) :
    EE X W (.Call (.Name x p) (e :: es) kws pos) (dCallK n m F da db) := by
  subst hm'
  exact PE.imp (pe_callN (E := E0) (g := fun us ws => us ++ ws) (gV := fun vs zs => vs ++ zs) Fk hr hg hm hk hb passN ha hkw hall hks hdb he hpl) fun σ H Q h => by
    obtain ⟨ι, env, S, s, er, p⟩ := h
    refine ⟨ι, env, S, s, er, (Post.bind (Rel' := Rps X.K) p).mono ?_⟩
    rintro xs H1 ⟨ι1, ds, S1, e1, s1, r1, p1⟩
    refine ⟨ι1, env, S1, s1, er.ext e1, (Post.bind (Rel' := Rps X.K) p1).mono ?_⟩
    rintro ys H2 ⟨ι2, es', S2, e2, s2, r2, p2⟩
    split at p2
    · rename_i hn
      refine ⟨by rw [r1.length]; exact hn.1, by rw [r2.length]; exact hn.2, by rw [List.length_append, r1.length, r2.length, hn.1, hn.2]; exact hl, ι2, _, S2, s2, (r1.ext e2).append r2, ?_⟩
      cases q : F (ds ++ es') S2 with
      | ok a S' => rw [q] at p2; exact p2
      | ex c fs S' => rw [q] at p2; exact p2.elim
      | bad => rw [q] at p2; exact p2.elim
    · exact p2.elim
end

section
variable {X : Cx} {W : WX} {a b : Expr} {da : DenA} {x y : Str} {i j : Nat} {px py pt pt2 pos : Pos}
theorem s_par {kt k2} (hc : X.calm = true) (hN : X.N.Nodup) (hij : i ≠ j) (ha : AA X W [a, b] da) (hi : X.N[i]? = some x := by rfl) (hj : X.N[j]? = some y := by rfl) (hx : X.env.scope.names.lookup x = some .local := by rfl) (hy : X.env.scope.names.lookup y = some .local := by rfl)
    (hw : swappedStores [.Tuple [.Name x px, .Name y py] kt pt] (.Tuple [a, b] k2 pt2) X.env = pure (some [x, y]) := by rfl) (hs : swapsWithSole [.Tuple [.Name x px, .Name y py] kt pt] (.Tuple [a, b] k2 pt2) pos.line X.env = pure false := by rfl) :
    SS X W (.Assign [.Tuple [.Name x px, .Name y py] kt pt] (.Tuple [a, b] k2 pt2) pos) (sPar i j da) := PS.imp (ps_par hc hN hi hj hij hx hy ha hw hs) fun Dn σ H h => rd_par h
end
end
end Z
end

section
set_option Elab.async false
set_option linter.all false
set_option maxRecDepth 100000
set_option maxHeartbeats 2000000
namespace PySem
open PySem PySem.Spec PySem.Calls PyProof.Rows
section
variable {prog : Program} {w : World} {A : Around} {E : Value → Shared → Prop} {s : Shared} {R : Result → Shared → Prop}
/-- list.__init__ of a list walked backwards -/
theorem zz_init_rev {it l S : Addr} {items : Array Value} (hh : A.handled = none) (hit : s.heap.IsRevIter it l ((items.size : Int) - 1)) (hl : s.heap.IsList l items) (hne : l ≠ it) (hn : items.size ≤ sizeLine)
    (hS : s.heap.get? S = some { cls := .type "list", data := .seq #[] }) (hSi : S ≠ it) (hSl : S ≠ l)
    (hR : ∀ (h' : Heap) (tk : Nat) (acc : Array Value) (c' : Nat), (∀ b o, b ≠ S → b ≠ it → s.heap.get? b = some o → h'.get? b = some o) → h'.get? S = some { cls := .type "list", dict := none, data := .seq acc c', slots := #[] } →
      ItemsOf (fun i v => items[items.size - 1 - i]? = some v) acc items.size → R (.ok (.ret .none)) { s with heap := h', toks := tk }) :
    wpAny (model prog w) A.in1 (Builtin.«list.__init__» ⟨[.ref S, .ref it], []⟩)
      (fun fin s' => match fin with | .done f => R (.ok f) s' | .again c' => c'.quiet = true ∧ codeAny (model prog w) A c' R s') (fun e s' => R (.error e) s') s := by
  have W := (Walks.listRev (prog := prog) (w := w) (A := A.in1) hh it l hne items).toS
  show wpAny _ A.in1 (do let old ← Builtin.List.listItems (.ref S); Builtin.List.listUpdate (.ref S) (fun _ => #[]); letGo old.toList.reverse; Builtin.List.listExtendWith (.ref S) (.ref it) .none) _ _ _
  refine wpAny_bind (?_ : wpAny _ _ (Builtin.List.listItems (.ref S)) _ _ _)
  unfold Builtin.List.listItems
  refine wpAny_bind (wpAny_seqItems hS rfl (wpAny_pure (?_ : wpAny _ A.in1 (updateSeq S (fun _ => #[]) >>= fun _ => letGo (#[] : Array Value).toList.reverse >>= fun _ => Builtin.List.listExtendWith (.ref S) (.ref it) .none) _ _ s)))
  refine wpAny_bind (wpAny_updateSeq hS rfl (wpAny_bind (wpAny_letGo ?_)))
  have g2 := Heap.get?_update_self (Obj.mapSeq (fun _ => (#[] : Array Value))) hS rfl
  have k2 : ∀ b o, b ≠ S → s.heap.get? b = some o → (s.heap.update S (Obj.mapSeq (fun _ => (#[] : Array Value)))).get? b = some o := fun b o hb e => (Heap.get?_update_other _ _ (Ne.symm hb)).trans e
  have hit2 : (s.heap.update S (Obj.mapSeq (fun _ => (#[] : Array Value)))).IsRevIter it l ((items.size : Int) - 1) := hit.at fun o e => k2 it o (Ne.symm hSi) e
  have hl2 : (s.heap.update S (Obj.mapSeq (fun _ => (#[] : Array Value)))).IsList l items := by
    obtain ⟨o, ho, r⟩ := hl
    exact ⟨o, k2 l o (Ne.symm hSl) ho, r⟩
  have nf : S ∉ [it, l] := by simp [hSi, hSl]
  have hT : ({ s with heap := s.heap.update S (Obj.mapSeq (fun _ => (#[] : Array Value))) } : Shared).TypeIs (.ref it) "list_reverseiterator" := Heap.IsRevIter.typeIs (s := { s with heap := s.heap.update S (Obj.mapSeq (fun _ => (#[] : Array Value))) }) hit2
  have n1 : Builtin.List.listSameRef (.ref S) (.ref it) = false := by simp [Builtin.List.listSameRef, hSi]
  unfold Builtin.List.listExtendWith
  refine wpAny_bind (wpAny_typeOf hT ?_)
  rw [if_neg (fun z => by rw [n1] at z; simp at z)]
  refine wpAny_bind (wpAny_pyIter_revIter (s := { s with heap := s.heap.update S (Obj.mapSeq (fun _ => (#[] : Array Value))) }) hit2 (wpAny_bind (wpAny_holding (?_ : wpAny _ _ (Builtin.List.listLengthHint (.ref it)) _ _ _))))
  unfold Builtin.List.listLengthHint
  refine wpAny_bind (wpAny_specialOf hT RT.nolen_lri (wpAny_bind (?_ : wpAny _ A.in1 (specialOf (Value.ref it) (Str.ofString "__length_hint__")) _ _ _)))
  refine wpAny_specialOf hT RT.hint_lri ?_
  generalize hid : ("list_reverseiterator.__length_hint__" : String) = id1
  wp_delta
  rw [show splitId id1 = some ("list_reverseiterator", "__length_hint__") from (by subst hid; decide +kernel)]
  subst hid
  refine wpAny_bind (wpAny_isInstance (b := true) hT (by rw [isSubtype_type]; kernel_rfl) (wpAny_pure ?_))
  rw [if_neg (by decide)]
  have z0 : ((items.size : Nat) : Int) - 1 - ((0 : Nat) : Int) = (items.size : Int) - 1 := by omega
  refine wpAny_pure ⟨plainId_quiet F.plain_extend_loop _, codeAny_extend_loopS W hn _ nf _ items.size 0 _ _ _ rfl (Nat.zero_le _) ⟨Nat.zero_le _, (by rw [z0]; exact hit2), hl2⟩ g2 (ItemsOf.nil _) fun s' acc' c' hm hS' hacc => ?_⟩
  rw [Moved.eq_with hm]
  exact hR s'.heap s'.toks acc' c' (fun b o hb hi e => hm.heap b o (fun z => by
    rcases List.mem_cons.mp z with z | z
    · exact hb z
    · exact hi (List.mem_singleton.mp z)) (k2 b o hb e)) hS' hacc
theorem zz_call_rev {it l : Addr} {items : Array Value} {Q : Value → Shared → Prop} (hh : A.handled = none) (hit : s.heap.IsRevIter it l ((items.size : Int) - 1)) (hl : s.heap.IsList l items) (hne : l ≠ it) (hn : items.size ≤ sizeLine)
    (hQ : ∀ (h' : Heap) (tk : Nat) (acc : Array Value) (c' : Nat), (∀ b o, b ≠ it → s.heap.get? b = some o → h'.get? b = some o) → h'.get? s.heap.objs.size = some { cls := .type "list", dict := none, data := .seq acc c', slots := #[] } →
      ItemsOf (fun i v => items[items.size - 1 - i]? = some v) acc items.size → Q (.ref s.heap.objs.size) { s with heap := h', toks := tk }) : wpAny (model prog w) A (call (.type "list") [.ref it]) Q E s := by
  obtain ⟨oi, hoi, _⟩ := id hit
  obtain ⟨ol, hol, _⟩ := id hl
  refine callType_codes (Q₁ := fun obj s₁ => obj = .ref s.heap.objs.size ∧ s₁ = { s with heap := s.heap.push { cls := .type "list", data := .seq #[] } })
    F.called_list (F.typeCall_list_1 _) F.entry_list_init (code_list_new _ ⟨rfl, rfl⟩) ?_
  rintro _ _ ⟨rfl, rfl⟩
  have hS : (s.heap.push { cls := .type "list", data := .seq #[] }).get? s.heap.objs.size = some { cls := .type "list", data := .seq #[] } := Heap.get?_push_size _ (by rfl)
  refine ⟨⟨_, hS, rfl⟩, F.args_list_init_2 _ _, zz_init_rev (A := A.in1) (s := { s with heap := s.heap.push { cls := .type "list", data := .seq #[] } }) hh (hit.at fun o e => Heap.get?_push_of_some _ e) (hl.push _) hne hn hS (Nat.ne_of_gt (Heap.lt_size hoi)) (Nat.ne_of_gt (Heap.lt_size hol)) fun h' tk acc c' k g i => ?_⟩
  exact ⟨rfl, hQ h' tk acc c' (fun b o hb e => k b o (Nat.ne_of_lt (Heap.lt_size e)) hb (Heap.get?_push_of_some _ e)) g i⟩
end
end PySem
namespace Z
open PySem PySem.Spec PyProof.Rows L2
def rRevL (K : PySem.W.Frag) (te : TE) : TE := fun σ H Q => te σ H fun v H1 => ∃ (a : Addr) (xs : List V), v = .ref a ∧ SqL K H1 a xs ∧ ∀ p, H1 p = none → Q (.ref p) (upd H1 p (.lst xs.reverse))
theorem pe_listRev {X : Cx} {e : Expr} {te : TE} {p p2 pos pos2 : Pos} (hc : X.calm = true) (hm : X.mg "list" = none) (hm2 : X.mg "reversed" = none) (he : PE X e te) (hg : Gl X "list") (hg2 : Gl X "reversed") (hs : starEach [e] X.env = (false, eval e X.env) :: starEach [] X.env)
    (hs2 : starEach [.Call (.Name "reversed" p2) [e] [] pos2] X.env = (false, eval (.Call (.Name "reversed" p2) [e] [] pos2) X.env) :: starEach [] X.env) : PE X (.Call (.Name "list" p) [.Call (.Name "reversed" p2) [e] [] pos2] [] pos) (rRevL X.K te) := by
  refine ⟨fun pins s σ H Q I h => Call_ (ld_blt I hg hm (show bootBuiltins "list" = some (.type "list") from by decide +kernel) (PyProof.Rows.callWith_type1 (args_cons (Call_ (ld_blt I hg2 hm2 PyProof.Rows.boot_reversed (PyProof.Rows.callWith_type1 (args_cons (thn (he.run pins s σ H _ I h) ?_) hs) hs rfl))) hs2) hs2 rfl))⟩
  rintro u s1 ⟨v, H1, I1, r1, a, xs, rfl, hq, q⟩
  cases (show u = Value.ref a from r1)
  obtain ⟨its, rv, pl, hz⟩ := I1.list hq
  refine args_nil (call_reversed_list pl.isList (args_nil ?_))
  obtain ⟨f0, f1, f2, f3, f4, f5⟩ := I1.fpOk (H' := H1) (b := s1.heap.objs.size) (Nat.le_refl _) (I1.hok.fresh (Nat.le_refl _))
  have I2 : Inv X pins σ H1 { s1 with heap := s1.heap.push (revObj a ((its.toArray.size : Int) - 1)) } := I1.kept (t' := s1.toks) fun b o e => Heap.get?_push_of_some _ e
  obtain ⟨ol, hol, _⟩ := id pl.isList
  refine zz_call_rev (s := { s1 with heap := s1.heap.push (revObj a ((its.toArray.size : Int) - 1)) }) (I1.ok.hd hc) ⟨_, Heap.get?_push_size _ rfl, rfl, rfl⟩ (pl.isList.push _) (Nat.ne_of_lt (Heap.lt_size hol)) (by rw [List.size_toArray, ← rv.length]; exact hz) fun h' tk acc c' hk g hi => ?_
  have hS : (s1.heap.push (revObj a ((its.toArray.size : Int) - 1))).objs.size = s1.heap.objs.size + 1 := by simp [Heap.push]
  have k1 : ∀ b u, s1.heap.get? b = some u → h'.get? b = some u := fun b u e => hk b u (Nat.ne_of_lt (Heap.lt_size e)) (Heap.get?_push_of_some _ e)
  have new : ObjOk X.prog X.w (upd H1 (s1.heap.push (revObj a ((its.toArray.size : Int) - 1))).objs.size (.lst xs.reverse)) h' (s1.heap.push (revObj a ((its.toArray.size : Int) - 1))).objs.size (.lst xs.reverse) :=
    ⟨by rw [List.length_reverse]; exact hz, acc.toList, c', RT.vals_rev rv hi, by rw [Array.toArray_toList]; exact g⟩
  exact ⟨.ref _, _, I1.laid (t' := tk) k1 (by rw [hS]; exact Nat.le_succ _) new, rfl, q _ (I1.hok.fresh (by rw [hS]; exact Nat.le_succ _))⟩
theorem e_revL0 {X : Cx} {W : WX} {e : Expr} {d : Den} {p p2 pos pos2 : Pos} (c : Bool) (hc : X.calm = true) (hm : X.mg "list" = none) (hm2 : X.mg "reversed" = none) (he : EE X W e d) (hg : Gl X "list") (hg2 : Gl X "reversed") (hs : starEach [e] X.env = (false, eval e X.env) :: starEach [] X.env)
    (hs2 : starEach [.Call (.Name "reversed" p2) [e] [] pos2] X.env = (false, eval (.Call (.Name "reversed" p2) [e] [] pos2) X.env) :: starEach [] X.env) {g : Den} (hd : g = fun env S => (d env S).bind fun x S1 => match lstOf S1 x with
      | some xs => mkL c xs.reverse S1
      | none => .bad) : EE X W (.Call (.Name "list" p) [.Call (.Name "reversed" p2) [e] [] pos2] [] pos) g := PE.imp (pe_listRev hc hm hm2 he hg hg2 hs hs2) fun σ H Q h => by
  subst hd
  obtain ⟨ι, env, S, s, er, p⟩ := h
  refine ⟨ι, env, S, s, er, (Post.bind (Rel' := Rp X.K) p).mono ?_⟩
  rintro x H1 ⟨ι1, dx, S1, e1, s1, r1, p1⟩
  split at p1
  · rename_i xs e4
    obtain ⟨a, vs, rfl, hs, r⟩ := lst_inv s1 r1 e4
    exact ⟨a, vs, rfl, hs, (p1.mkL s1 r.reverse).2⟩
  · exact p1.elim
end Z
end

section
set_option Elab.async false
set_option linter.all false
set_option maxRecDepth 100000
set_option maxHeartbeats 1000000
namespace Z
noncomputable section
open PySem PySem.Spec PyProof.Rows L2
theorem no1 {p : Str → Prop} {a : Str} (h : p a) : ∀ f ∈ [a], p f := fun f hf => by rw [List.mem_singleton.mp hf]; exact h
theorem no2 {p : Str → Prop} {a b : Str} (h : p a) (k : p b) : ∀ f ∈ [a, b], p f := fun f hf => by
  rcases List.mem_cons.mp hf with rfl | hf
  · exact h
  · rw [List.mem_singleton.mp hf]; exact k
theorem cl_of {K : PySem.W.Frag} {C : Addr} (h : PySem.W.hasDictIn K C = true) : (PySem.W.clsIn K C).isSome = true := by
  obtain ⟨cd, hc, _⟩ := PySem.W.any_some h
  rw [hc]; rfl
theorem kit_ref {K : PySem.W.Frag} {C E : Addr} {b : Bool} (hd : PySem.W.hasDictIn K E = true) (ty : PySem.W.typeIn K (.ref E) = some (.type "type")) (h : PySem.W.subIn K (.ref C) (.ref E) = some b) (hs : PySem.W.subIn K (.ref C) (.ref C) = some true) : PySem.W.kitOne K (.ref C) (.ref E) = some b := by
  unfold PySem.W.kitOne
  by_cases e : C = E
  · subst e
    rw [hs] at h; cases h
    simp
  · have e1 : (Value.ref C == Value.ref E) = false := by
      rw [beq_eq_false_iff_ne]; intro z; cases z; exact e rfl
    rw [e1, if_neg Bool.false_ne_true]
    unfold PySem.W.kitCls
    simp only [cl_of hd, ty]
    simpa using h
theorem kit_typ {K : PySem.W.Frag} {C : Addr} {b : Bool} {T : String} (hm : PySem.W.kitMeta T = true) (h : PySem.W.subIn K (.ref C) (.type T) = some b) : PySem.W.kitOne K (.ref C) (.type T) = some b := by
  unfold PySem.W.kitOne
  have e1 : (Value.ref C == Value.type T) = false := by
    rw [beq_eq_false_iff_ne]; intro z; cases z
  rw [e1, if_neg Bool.false_ne_true]
  unfold PySem.W.kitCls
  simp only [hm, if_true]
  exact h
/-! ### comparisons as tests -/
theorem rdT_B {K : PySem.W.Frag} {mg : Str → Option Value} {W : WX} {d : Den} {σ : L2.St} {H : Hp} {Q : Bool → Hp → Prop} (h : rdT K mg W (tB' d) σ H Q) : rd K mg W d σ H (fun x H' => ∃ k, x = .bl k ∧ Q k H') := by
  obtain ⟨ι, env, S, s, er, p⟩ := h
  refine ⟨ι, env, S, s, er, (Post.bind (Rel' := Rp K) p).mono ?_⟩
  rintro x H1 ⟨ι1, dx, S1, e1, s1, r1, p1⟩
  cases dx with
  | bl c => cases r1; exact ⟨c, rfl, p1.ret s1 rfl⟩
  | _ => exact p1.elim
section
variable {X : Cx} {W : WX} {a b c : Expr} {da db dc : Den} {pos pos' : Pos} {r r' : R2} {f g : D → D → Sto → R D} {j : Nat}
theorem rd_isN {K : PySem.W.Frag} {mg : Str → Option Value} {σ : L2.St} {H : Hp} {Q : VK} (h : rd K mg W (dIsN da) σ H Q) : tIsN (rd K mg W da) σ H Q := by
  obtain ⟨ι, env, S, s, er, p⟩ := h
  refine ⟨ι, env, S, s, er, (Post.bind (Rel' := Rp K) p).mono ?_⟩
  rintro x H1 ⟨ι1, dx, S1, e1, s1, r1, p1⟩
  rw [r1.isNon]; exact p1.ret s1 (.bl _)
theorem rd_notN {K : PySem.W.Frag} {mg : Str → Option Value} {σ : L2.St} {H : Hp} {Q : VK} (h : rd K mg W (dNotN da) σ H Q) : tNotN (rd K mg W da) σ H Q := by
  obtain ⟨ι, env, S, s, er, p⟩ := h
  refine ⟨ι, env, S, s, er, (Post.bind (Rel' := Rp K) p).mono ?_⟩
  rintro x H1 ⟨ι1, dx, S1, e1, s1, r1, p1⟩
  rw [r1.isNon]; exact p1.ret s1 (.bl _)
theorem sIsB {K : PySem.W.Frag} (k : Bool) {mg : Str → Option Value} {σ : L2.St} {H : Hp} {Q : VK} (h : rd K mg W (dIsB k da) σ H Q) : tOp (rIsBl k) (rd K mg W da) (tC (.bl k)) σ H Q := by
  obtain ⟨ι, env, S, s, er, p⟩ := h
  refine ⟨ι, env, S, s, er, (Post.bind (Rel' := Rp K) p).mono ?_⟩
  rintro x H1 ⟨ι1, dx, S1, e1, s1, r1, p1⟩
  refine ⟨rfl, ?_⟩
  rw [r1.isBl]; exact p1.ret s1 (.bl _)
theorem sNotB {K : PySem.W.Frag} (k : Bool) {mg : Str → Option Value} {σ : L2.St} {H : Hp} {Q : VK} (h : rd K mg W (dNotB k da) σ H Q) : tOp (rNotBl k) (rd K mg W da) (tC (.bl k)) σ H Q := by
  obtain ⟨ι, env, S, s, er, p⟩ := h
  refine ⟨ι, env, S, s, er, (Post.bind (Rel' := Rp K) p).mono ?_⟩
  rintro x H1 ⟨ι1, dx, S1, e1, s1, r1, p1⟩
  refine ⟨rfl, ?_⟩
  rw [r1.isBl]; exact p1.ret s1 (.bl _)
theorem t_cmp {op : CmpOp} (ho : OpR X (compareOp op) r) (hf : OpS X.K r f) (ha : EE X W a da) (hb : EE X W b db) (hm : behindInMarks op b = false := by first | exact nomark _ | rfl) : TT' X W (.Compare a [op] [b] pos) (tB' (bin f da db)) :=
  PT.imp (pt_cmpR ho ha hb hm) fun _ _ _ h => rd_bin hf (rdT_B h)
theorem t_isN (ha : EE X W a da) : TT' X W (.Compare a [.Is] [.Constant .none j pos'] pos) (tB' (dIsN da)) := PT.imp (pt_cmp (pc_isN ha)) fun _ _ _ h => rd_isN (rdT_B h)
theorem t_notN (ha : EE X W a da) : TT' X W (.Compare a [.IsNot] [.Constant .none j pos'] pos) (tB' (dNotN da)) := PT.imp (pt_cmp (pc_notN ha)) fun _ _ _ h => rd_notN (rdT_B h)
theorem t_isB {k : Bool} (ha : EE X W a da) : TT' X W (.Compare a [.Is] [.Constant (.bool k) j pos'] pos) (tB' (dIsB k da)) := PT.imp (pt_cmpR (op_isB k) ha pe_bl (nomark _)) fun _ _ _ h => sIsB k (rdT_B h)
theorem t_notB {k : Bool} (ha : EE X W a da) : TT' X W (.Compare a [.IsNot] [.Constant (.bool k) j pos'] pos) (tB' (dNotB k da)) := PT.imp (pt_cmpR (op_notB k) ha pe_bl (nomark _)) fun _ _ _ h => sNotB k (rdT_B h)
theorem t_chain {op op' : CmpOp} (ho : OpR X (compareOp op) r) (ho' : OpR X (compareOp op') r') (hf : OpS X.K r f) (hg : OpS X.K r' g) (ha : EE X W a da) (hb : EE X W b db) (hc : EE X W c dc)
    (hm : lastMarks [op, op'] [b, c] = false := by with_unfolding_all rfl) : TT' X W (.Compare a [op, op'] [b, c] pos) (tB' (chain f g da db dc)) := PT.imp (pt_chain ho ho' ha hb hc hm) fun _ _ _ h => rd_chain hf hg (rdT_B h)
end
def dRevL (c : Bool) (d : Den) : Den := fun env S => (d env S).bind fun x S1 => match lstOf S1 x with
  | some xs => mkL c xs.reverse S1
  | none => .bad
section
variable {X : Cx} {W : WX} {e : Expr} {d : Den} {p p2 pos pos2 : Pos}
theorem e_revL (c : Bool) (hm : X.mg "list" = none) (hm2 : X.mg "reversed" = none) (he : EE X W e d) (hc : X.calm = true := by rfl) (hg : Gl X "list" := by rfl) (hg2 : Gl X "reversed" := by rfl) (hs : starEach [e] X.env = (false, eval e X.env) :: starEach [] X.env := by rfl)
    (hs2 : starEach [.Call (.Name "reversed" p2) [e] [] pos2] X.env = (false, eval (.Call (.Name "reversed" p2) [e] [] pos2) X.env) :: starEach [] X.env := by rfl) : EE X W (.Call (.Name "list" p) [.Call (.Name "reversed" p2) [e] [] pos2] [] pos) (dRevL c d) := e_revL0 c hc hm hm2 he hg hg2 hs hs2 rfl
end
end
end Z
end

section
set_option Elab.async false
set_option linter.all false
set_option maxRecDepth 100000
namespace Z
/-! ### what is reckoned -/
section
variable {α β : Type} {a : α} {S : Sto} {c : PySem.Str} {fs : List (PySem.Str × D)} {e : Env} {p : Prop} [Decidable p] {d : D}
theorem F.then_nx {k : SDen} : (F.nx e S).then k = k e S := rfl
theorem F.then_rt {k : SDen} : (F.rt d S).then k = .rt d S := rfl
theorem F.then_bk {k : SDen} : (F.bk e S).then k = .bk e S := rfl
theorem F.then_ct {k : SDen} : (F.ct e S).then k = .ct e S := rfl
theorem F.then_ex {k : SDen} : (F.ex c fs e S).then k = .ex c fs e S := rfl
theorem F.then_bad {k : SDen} : F.bad.then k = .bad := rfl
theorem F.then_ite {f g : F} {k : SDen} : (if p then f else g).then k = if p then f.then k else g.then k := by split <;> rfl
theorem R.lift_ok {k : α → Sto → F} : (R.ok a S).lift e k = k a S := rfl
theorem R.lift_ex {k : α → Sto → F} : (R.ex c fs S : R α).lift e k = .ex c fs e S := rfl
theorem R.lift_bad {k : α → Sto → F} : (R.bad : R α).lift e k = .bad := rfl
theorem R.lift_ite {f g : R α} {k : α → Sto → F} : (if p then f else g).lift e k = if p then f.lift e k else g.lift e k := by split <;> rfl
theorem R.bind_ite {f g : R α} {k : α → Sto → R β} : (if p then f else g).bind k = if p then f.bind k else g.bind k := by split <;> rfl
def F.fin : F → R D
  | .nx _ S' => .ok .non S'
  | .rt d S' => .ok d S'
  | .ex c fs _ S' => .ex c fs S'
  | _ => .bad
theorem fnF_eq {n : Nat} {body : SDen} {ds : List D} : fnF n body ds S = (body (ds.map some ++ List.replicate (n - ds.length) none) S).fin := by
  unfold fnF F.fin
  cases body (ds.map some ++ List.replicate (n - ds.length) none) S <;> rfl
theorem F.fin_nx : (F.nx e S).fin = .ok .non S := rfl
theorem F.fin_rt : (F.rt d S).fin = .ok d S := rfl
theorem F.fin_ex : (F.ex c fs e S).fin = .ex c fs S := rfl
theorem F.fin_bad : F.bad.fin = .bad := rfl
theorem F.fin_ite {f g : F} : (if p then f else g).fin = if p then f.fin else g.fin := by split <;> rfl
theorem asB_bl {b : Bool} : asB (.bl b) S = .ok b S := rfl
theorem asI_int {i : Int} : asI (.int i) S = .ok i S := rfl
theorem arity_eq {n : Nat} {F : FD} {ds : List D} (h : ds.length = n) : arity n F ds S = F ds S := if_pos h
theorem forGo_nil {g : Sto → Prop} {t : Tg} {b : SDen} (h : g S) : forGo g t b [] e S = .nx e S := by rw [forGo]; exact if_pos h
/-- a loop by its invariant over what is left, where no turn leaves it -/
theorem forGo_inv {g : Sto → Prop} {t : Tg} {b : SDen} {xs : List D} (I : List D → Env → Sto → Prop) (h0 : ∀ S e, I xs e S → True)
    (hg : ∀ ys e S, I ys e S → g S) (hs : ∀ y ys e S, I (y :: ys) e S → ∃ e1 e2 S2, t.run y e = some e1 ∧ (b e1 S = .nx e2 S2 ∨ b e1 S = .ct e2 S2) ∧ I ys e2 S2) : ∀ {ys : List D} {e : Env} {S : Sto}, I ys e S → ∃ e' S', forGo g t b ys e S = .nx e' S' ∧ I [] e' S'
  | [], e, S, h => ⟨e, S, forGo_nil (hg _ _ _ h), h⟩
  | y :: ys, e, S, h => by
    obtain ⟨e1, e2, S2, h1, h2, h3⟩ := hs y ys e S h
    obtain ⟨e', S', h4, h5⟩ := forGo_inv (xs := xs) I h0 hg hs h3
    refine ⟨e', S', ?_, h5⟩
    rw [forGo, if_pos (hg _ _ _ h), h1]
    rcases h2 with h2 | h2
    · simp only [h2]; exact h4
    · simp only [h2]; exact h4
end
theorem sz_lt {n : Nat} (h : n ≤ 1000) : FitS n = True := eq_true (L2.small1000 h)
theorem sz_le {n : Nat} (h : n ≤ 1000) : Fit n = True := eq_true (Nat.le_of_lt (L2.small1000 h))
/-- a comprehension whose turns leave the store as it is -/
theorem lcGo_map {t : Tg} {c : DenT} {elt : Den} {env : Env} {S : Sto} {g : Sto → Prop} (hg : g S) (f : D → D) : ∀ (xs acc : List D), acc.length + xs.length ≤ 1000 →
    (∀ x ∈ xs, ∃ e, t.run x env = some e ∧ c e S = .ok true S ∧ elt e S = .ok (f x) S) → lcGo g t c elt env xs acc S = .ok (acc ++ xs.map f) S
  | [], acc, _, _ => by rw [lcGo, if_pos hg, List.map_nil, List.append_nil]
  | x :: xs, acc, hl, h => by
    obtain ⟨e, h1, h2, h3⟩ := h x List.mem_cons_self
    rw [lcGo, if_pos hg, h1]
    simp only [h2, h3, if_true]
    rw [if_pos (of_eq_true (sz_lt (by simp only [List.length_cons] at hl; omega))), lcGo_map hg f xs (acc ++ [f x]) (by simp only [List.length_append, List.length_cons, List.length_nil] at hl ⊢; omega) fun y hy => h y (List.mem_cons_of_mem _ hy)]
    simp
theorem bools_rep (n : Nat) : boolsOf (List.replicate n (.bl true)) = some (List.replicate n true) := by
  induction n with
  | zero => rfl
  | succ n ih => rw [List.replicate_succ, boolsOf, ih]; rfl
theorem rngD_len (lo : Int) (n : Nat) : (rngD lo n).length = n := by simp [rngD]
theorem mem_rngD {lo : Int} {n : Nat} {x : D} (h : x ∈ rngD lo n) : ∃ i : Nat, i < n ∧ x = .int (lo + i) := by
  unfold rngD at h
  obtain ⟨i, hi, e⟩ := List.mem_map.mp h
  exact ⟨i, List.mem_range.mp hi, e.symm⟩
/-- data of None, truths, ints, texts and tuples, below a depth -/
def flatD' : Nat → D → Bool
  | _, .non => true
  | _, .bl _ => true
  | _, .int _ => true
  | _, .str _ => true
  | 0, .tup _ => false
  | n + 1, .tup xs => decide (xs.length ≤ 1000) && xs.all (flatD' n)
  | _, _ => false
theorem rok {n : Nat} (hn : n ≤ 1000) : Rok (n : Int) := by unfold Rok big; omega
theorem fRng1_eq {i : Int} {n : Nat} {S : Sto} (h : i = (n : Int)) (hn : n ≤ 1000) : fRng1 [.int i] S = .ok (rngD 0 n, fun _ => True) S := by
  subst h
  show (if Rok (n : Int) then R.ok (rngD 0 (n : Int).toNat, fun _ => True) S else .bad) = _
  rw [if_pos (rok hn), Int.toNat_natCast]
/-! ### sizes -/
/-- below 2 ^ k -/
def sm (k : Nat) (i : Int) : Prop := i.natAbs < 2 ^ k
section
variable {i j : Int} {a b : Nat}
theorem sm.mono (h : sm a i) (hb : a ≤ b) : sm b i := Nat.lt_of_lt_of_le h (Nat.pow_le_pow_right (by decide) hb)
theorem sm.mul (h : sm a i) (k : sm b j) : sm (a + b) (i * j) := by
  unfold sm at *
  rw [Int.natAbs_mul, Nat.pow_add]
  exact Nat.mul_lt_mul'' h k
theorem sm.add (h : sm a i) (k : sm a j) : sm (a + 1) (i + j) := by
  unfold sm at *
  rw [Nat.pow_succ]
  have := Int.natAbs_add_le i j
  omega
theorem sm.sub (h : sm a i) (k : sm a j) : sm (a + 1) (i - j) := by
  unfold sm at *
  rw [Nat.pow_succ]
  have := Int.natAbs_sub_le i j
  omega
theorem sm.ok (h : sm a i) (k : sm b j) (hs : a + b < 1000000) : MulOk i j := by
  have h' : sm (a + 1) i := h.mono (Nat.le_succ _)
  by_cases hb : b = 0
  · subst hb
    refine .inl (.inr ?_)
    unfold sm at k
    have : j = 0 := by
      have : j.natAbs < 1 := k
      omega
    subst this
    decide
  by_cases ha : a = 0
  · subst ha
    refine .inl (.inl ?_)
    unfold sm at h
    have : i = 0 := by
      have : i.natAbs < 1 := h
      omega
    subst this
    decide
  exact .inr (L2.wide_mul h k (by omega) (by omega) (by omega))
theorem sm.div (h : sm a i) (h0 : 0 < i) (ha : a ≤ 9000) : DivOk i := by
  by_cases hz : a = 0
  · subst hz
    unfold sm at h
    have : i.natAbs < 1 := h
    omega
  exact ⟨h0, Nat.lt_of_lt_of_le (PySem.Flt.log2_lt_of (by omega) h) ha⟩
theorem sm.le {k : Nat} (h : sm k j) (h0 : 0 ≤ i) (hi : i ≤ j) : sm k i := by
  unfold sm at *; omega
end
end Z
end

section
set_option Elab.async false
set_option linter.all false
set_option maxRecDepth 100000
set_option maxHeartbeats 1000000
namespace Z
noncomputable section
open PySem PySem.Spec PyProof.Rows L2
/-! ### + of ints, texts, tuples and lists -/
def fPlus (x y : D) (S : Sto) : R D := match x, y with
  | .int i, .int j => .ok (.int (i + j)) S
  | .str i, .str j => if Fit (i.length + j.length) then .ok (.str (i ++ j)) S else .bad
  | .tup xs, .tup ys => if Fit (xs.length + ys.length) then .ok (.tup (xs ++ ys)) S else .bad
  | x, y => match ownOf S x, ownOf S y with
    | some xs, some ys => mkL false (xs ++ ys) S
    | _, _ => .bad
def rPlus (K : PySem.W.Frag) : R2 := fun x y H Q => (rI0 fun i j => .int (i + j)) x y H Q ∨ (∃ i j, x = .str i ∧ y = .str j ∧ i.length + j.length ≤ sizeLine ∧ Q (.str (i ++ j)) H) ∨ rCatA K x y H Q ∨ rCat x y H Q
theorem oPlus {X : Cx} : OpR X (binaryOp .Add) (rPlus X.K) := op_add.or (op_add_str.or (op_catA.or op_cat))
section
variable {K : PySem.W.Frag}
theorem Rps.app {H : Hp} {ι : Em} : ∀ {vs ws : List V} {ds es : List D}, Rps K H ι vs ds → Rps K H ι ws es → Rps K H ι (vs ++ ws) (ds ++ es)
  | _, _, _, _, .nil, h => h
  | _, _, _, _, .cons r rs, h => .cons r (Rps.app rs h)
theorem sPlus : OpS K (rPlus K) fPlus := by
  intro mg W σ ι H S x y dx dy Q s rx ry p
  unfold fPlus at p
  split at p
  · obtain ⟨rfl, rfl⟩ := int2 rx ry
    exact .inl ⟨_, _, rfl, rfl, p.ret s (.int _)⟩
  · rename_i i j
    split at p
    · rename_i hl
      cases rx; cases ry
      exact .inr (.inl ⟨_, _, rfl, rfl, hl, p.ret s (.str _)⟩)
    · exact p.elim
  · rename_i xs ys
    split at p
    · rename_i hl
      obtain ⟨a, vs, rfl, h1, h2⟩ := rx.tup_inv
      obtain ⟨b, ws, rfl, k1, k2⟩ := ry.tup_inv
      refine .inr (.inr (.inl ⟨a, b, vs, ws, rfl, rfl, h1, k1, by rw [h2.length, k2.length]; exact hl, fun e => ?_, fun _ e => ?_, fun _ _ q hq => ?_⟩))
      · subst e
        cases h2
        exact p.ret s (by rw [List.nil_append]; exact ry)
      · subst e
        cases k2
        exact p.ret s (by rw [List.append_nil]; exact rx)
      · exact p _ _ _ (Ext.new hq) (s.new hq) (.tup (s.out hq) upd_same ((h2.app k2).ext (Ext.new hq)))
    · exact p.elim
  · split at p
    · rename_i xs ys e1 e2
      obtain ⟨a, vs, rfl, h1, h2⟩ := own_inv s rx e1
      obtain ⟨b, ws, rfl, k1, k2⟩ := own_inv s ry e2
      have q := p.mkL s (h2.app k2)
      exact .inr (.inr (.inr ⟨a, b, vs, ws, rfl, rfl, h1, k1, by rw [← List.length_append]; exact q.1, q.2⟩))
    · exact p.elim
/-! ### methods of texts -/
def fPart (x : D) (ys : List D) (S : Sto) : R D := match x, ys with
  | .str a, [.str b] => if (b.length == 0) = false ∧ Fit a.length then .ok (.tup [.str (Txt.partition a b).1, .str (Txt.partition a b).2.1, .str (Txt.partition a b).2.2]) S else .bad
  | _, _ => .bad
def fStarts (x : D) (ys : List D) (S : Sto) : R D := match x, ys with
  | .str a, [.str b] => .ok (.bl (Txt.startswith a b)) S
  | _, _ => .bad
def fFind (x : D) (ys : List D) (S : Sto) : R D := match x, ys with
  | .str a, [.str b] => .ok (.int (Txt.find a b)) S
  | _, _ => .bad
def fIsdig (x : D) (ys : List D) (S : Sto) : R D := match x, ys with
  | .str a, [] => .ok (.bl (Txt.isdigit a)) S
  | _, _ => .bad
def fIsasc (x : D) (ys : List D) (S : Sto) : R D := match x, ys with
  | .str a, [] => .ok (.bl (Txt.isascii a)) S
  | _, _ => .bad
theorem sPart : MzS K (fun x xs H Q => ∃ a b, x = .str a ∧ xs = [.str b] ∧ (b.length == 0) = false ∧ a.length ≤ sizeLine ∧ ∀ p, H p = none → Q (.ref p) (upd H p (.tup [.str (Txt.partition a b).1, .str (Txt.partition a b).2.1, .str (Txt.partition a b).2.2]))) fPart := by
  intro mg W σ ι H S x dx ys dys Q s r rs p
  unfold fPart at p
  split at p
  · split at p
    · rename_i h
      obtain ⟨u, rfl, ru⟩ := rps1 rs
      cases r; cases ru
      refine ⟨_, _, rfl, rfl, h.1, h.2, fun q hq => ?_⟩
      exact p _ _ _ (Ext.new hq) (s.new hq) (.tup (s.out hq) upd_same (.cons (.str _) (.cons (.str _) (.cons (.str _) .nil))))
    · exact p.elim
  · exact p.elim
theorem sStarts : MzS K (fun x xs H Q => ∃ a b, x = .str a ∧ xs = [.str b] ∧ Q (.bl (Txt.startswith a b)) H) fStarts := by
  intro mg W σ ι H S x dx ys dys Q s r rs p
  unfold fStarts at p
  split at p
  · obtain ⟨u, rfl, ru⟩ := rps1 rs
    cases r; cases ru
    exact ⟨_, _, rfl, rfl, p.ret s (.bl _)⟩
  · exact p.elim
theorem sFind : MzS K (fun x xs H Q => ∃ a b, x = .str a ∧ xs = [.str b] ∧ Q (.int (Txt.find a b)) H) fFind := by
  intro mg W σ ι H S x dx ys dys Q s r rs p
  unfold fFind at p
  split at p
  · obtain ⟨u, rfl, ru⟩ := rps1 rs
    cases r; cases ru
    exact ⟨_, _, rfl, rfl, p.ret s (.int _)⟩
  · exact p.elim
theorem sIsdig : MzS K (fun x xs H Q => ∃ a, x = .str a ∧ xs = [] ∧ True ∧ Q (.bl (Txt.isdigit a)) H) fIsdig := by
  intro mg W σ ι H S x dx ys dys Q s r rs p
  unfold fIsdig at p
  split at p
  · cases r; cases rs
    exact ⟨_, rfl, rfl, trivial, p.ret s (.bl _)⟩
  · exact p.elim
theorem sIsasc : MzS K (fun x xs H Q => ∃ a, x = .str a ∧ xs = [] ∧ True ∧ Q (.bl (Txt.isascii a)) H) fIsasc := by
  intro mg W σ ι H S x dx ys dys Q s r rs p
  unfold fIsasc at p
  split at p
  · cases r; cases rs
    exact ⟨_, rfl, rfl, trivial, p.ret s (.bl _)⟩
  · exact p.elim
/-! ### str(n), int(text) -/
def LogOk (i : Int) : Prop := i.natAbs.log2 < 1920
noncomputable instance (i : Int) : Decidable (LogOk i) := Classical.propDecidable _
def fStr (xs : List D) (S : Sto) : R D := match xs with
  | [.int i] => if LogOk i then .ok (.str (toString i)) S else .bad
  | [.str a] => .ok (.str a) S
  | _ => .bad
def fIntT (xs : List D) (S : Sto) : R D := match xs with
  | [.int i] => .ok (.int i) S
  | [.bl b] => .ok (.int (if b then 1 else 0)) S
  | [.str a] => match PySem.intText? a with
    | some n => if a.length ≤ 640 then .ok (.int n) S else .bad
    | none => .bad
  | _ => .bad
theorem callr_or {X : Cx} {f : Value} {r r' : List V → Hp → VK → Prop} (h : CallR X f r) (h' : CallR X f r') : CallR X f (fun xs H Q => r xs H Q ∨ r' xs H Q) := fun pins s σ H xs us Q I rs q => by
  rcases q with q | q
  · exact h pins s σ H xs us Q I rs q
  · exact h' pins s σ H xs us Q I rs q
def rStr (xs : List V) (H : Hp) (Q : VK) : Prop := (∃ i, xs = [.int i] ∧ i.natAbs.log2 < 1920 ∧ Q (.str (toString i)) H) ∨ (∃ a, xs = [.str a] ∧ Q (.str a) H)
theorem cr_str {X : Cx} : CallR X (.type "str") rStr := callr_or call_str_int SkE.call_str_str
theorem sStr : CbS K rStr fStr := by
  intro mg W σ ι H S xs ds Q s r p
  unfold fStr at p
  split at p
  · split at p
    · rename_i h
      obtain ⟨x, rfl, r1⟩ := rps1 r
      cases r1; exact .inl ⟨_, rfl, h, p.ret s (.str _)⟩
    · exact p.elim
  · obtain ⟨x, rfl, r1⟩ := rps1 r
    cases r1; exact .inr ⟨_, rfl, p.ret s (.str _)⟩
  · exact p.elim
def rIntT (xs : List V) (H : Hp) (Q : VK) : Prop := ((∃ i, xs = [.int i] ∧ Q (.int i) H) ∨ ∃ k, xs = [.bl k] ∧ Q (.int (if k then 1 else 0)) H) ∨ (∃ a n, xs = [.str a] ∧ PySem.intText? a = some n ∧ a.length ≤ 640 ∧ Q (.int n) H)
theorem cr_intT {X : Cx} : CallR X (.type "int") rIntT := callr_or call_int1 call_int_str
theorem sIntT : CbS K rIntT fIntT := by
  intro mg W σ ι H S xs ds Q s r p
  unfold fIntT at p
  split at p
  · obtain ⟨x, rfl, r1⟩ := rps1 r
    cases r1; exact .inl (.inl ⟨_, rfl, p.ret s (.int _)⟩)
  · obtain ⟨x, rfl, r1⟩ := rps1 r
    cases r1; exact .inl (.inr ⟨_, rfl, p.ret s (.int _)⟩)
  · split at p
    · rename_i n e
      split at p
      · rename_i h
        obtain ⟨x, rfl, r1⟩ := rps1 r
        cases r1; exact .inr ⟨_, n, rfl, e, h, p.ret s (.int _)⟩
      · exact p.elim
    · exact p.elim
  · exact p.elim
end
/-! ### f-strings -/
def fFmt (x : D) (S : Sto) : R D := match x with
  | .str y => if Fit y.length then .ok (.str y) S else .bad
  | .int i => if LogOk i then .ok (.str (toString i)) S else .bad
  | _ => .bad
def dFmt (d : Den) : Den := fun env S => (d env S).bind fFmt
def dJs : List Den → Str → Den
  | [], acc => fun _ S => .ok (.str acc) S
  | d :: ds, acc => fun env S => (d env S).bind fun x S1 => match x with
    | .str y => if Fit (acc ++ y).length then dJs ds (acc ++ y) env S1 else .bad
    | _ => .bad
section
variable {X : Cx} {W : WX} {e : Expr} {es : List Expr} {d : Den} {ds : List Den} {pos : Pos}
theorem e_fmt (h : EE X W e d) : EE X W (.FormattedValue e (-1) none pos) (dFmt d) := PE.imp (pe_fmt h) fun σ H Q h => by
  obtain ⟨ι, env, S, s, er, p⟩ := h
  refine ⟨ι, env, S, s, er, (Post.bind (Rel' := Rp X.K) p).mono ?_⟩
  rintro x H1 ⟨ι1, dx, S1, e1, s1, r1, p1⟩
  unfold fFmt at p1
  split at p1
  · split at p1
    · rename_i hl
      cases r1; exact .inl ⟨_, rfl, hl, p1.ret s1 (.str _)⟩
    · exact p1.elim
  · split at p1
    · rename_i hl
      cases r1; exact .inr ⟨_, rfl, hl, p1.ret s1 (.str _)⟩
    · exact p1.elim
  · exact p1.elim
abbrev JJ (X : Cx) (W : WX) (es : List Expr) (ds : List Den) : Prop := PJ X es (ds.map (rd X.K X.mg W))
theorem j_nil : JJ X W [] [] := .nil
theorem j_cons (h : EE X W e d) (r : JJ X W es ds) : JJ X W (e :: es) (d :: ds) := .cons h r
theorem tJs_of {K : PySem.W.Frag} {mg : Str → Option Value} {σ : L2.St} {Q : VK} : ∀ (ds : List Den) (acc : Str) (H : Hp), rd K mg W (dJs ds acc) σ H Q → tJs (ds.map (rd K mg W)) acc σ H fun out H1 => Q (.str out) H1
  | [], acc, H, h => by
    obtain ⟨ι, env, S, s, er, p⟩ := h
    exact p.ret s (.str _)
  | d :: ds, acc, H, h => by
    obtain ⟨ι, env, S, s, er, p⟩ := h
    refine ⟨ι, env, S, s, er, (Post.bind (Rel' := Rp K) p).mono ?_⟩
    rintro x H1 ⟨ι1, dx, S1, e1, s1, r1, p1⟩
    split at p1
    · rename_i y
      split at p1
      · rename_i hl
        cases r1
        exact ⟨_, rfl, hl, tJs_of ds (acc ++ y) H1 ⟨ι1, env, S1, s1, er.ext e1, p1⟩⟩
      · exact p1.elim
    · exact p1.elim
theorem e_joined {v1 v2 : Expr} {rest : List Expr} (h : JJ X W (v1 :: v2 :: rest) ds) : EE X W (.JoinedStr (v1 :: v2 :: rest) pos) (dJs ds Str.empty) := PE.imp (pe_joined h) fun σ H Q h => tJs_of ds Str.empty H h
theorem e_joined1 (h : EE X W e d) : EE X W (.JoinedStr [e] pos) d := pe_joined1 h
end
/-! ### walking a text, a list or a tuple -/
def sgn (c : Nat) : D := .str ⟨#[c]⟩
def asAny (x : D) (S : Sto) : R (List D × (Sto → Prop)) := match x with
  | .str z => .ok (z.cps.toList.map sgn, fun _ => True) S
  | x => asSeq x S
def iAny (d : Den) : DenI := fun env S => (d env S).bind asAny
section
variable {X : Cx} {W : WX} {tg l : Expr} {tl : Den}
theorem txt_ok {K : PySem.W.Frag} {z : Str} {ι : Em} {H : Hp} : ItOk K (Its z) (z.cps.toList.map sgn) (fun _ => True) ι H := by
  refine ⟨fun ι2 H2 S2 i x e2 s2 _ hx => ?_, fun ι2 H2 S2 _ _ _ => by show z.cps.size ≤ _; simp⟩
  have hi : i < z.cps.size := by
    have := (List.getElem?_eq_some_iff.mp hx).1
    simpa using this
  refine ⟨hi, fun v H3 y => ?_⟩
  obtain ⟨rfl, c, hc, rfl⟩ := y
  refine ⟨Ext.refl, s2, ?_⟩
  rw [List.getElem?_map, Array.getElem?_toList, hc] at hx
  cases hx
  exact .str _
theorem pi_or {t t' : TI} (h : PI X tg l t) (h' : PI X tg l t') : PI X tg l (fun σ H R => t σ H R ∨ t' σ H R) := ⟨fun pins s σ H R I q => by
  rcases q with q | q
  · exact h.run pins s σ H R I q
  · exact h'.run pins s σ H R I q⟩
def iTxt (d : Den) : DenI := fun env S => (d env S).bind fun x S1 => match x with
  | .str z => .ok (z.cps.toList.map sgn, fun _ => True) S1
  | _ => .bad
theorem i_txt (hl : EE X W l tl) : II X W tg l (iTxt tl) := PI.imp (pi_str hl) fun σ H R h => by
  obtain ⟨ι, env, S, s, er, p⟩ := h
  refine ⟨ι, env, S, s, er, (Post.bind (Rel' := Rp X.K) p).mono ?_⟩
  rintro x H1 ⟨ι1, dx, S1, e1, s1, r1, p1⟩
  split at p1
  · cases r1
    exact ⟨_, rfl, p1 ι1 H1 _ Ext.refl s1 txt_ok⟩
  · exact p1.elim
theorem i_any (hl : EE X W l tl) : II X W tg l (iAny tl) := PI.imp (pi_or (i_txt hl) (i_seq hl)) fun σ H R h => by
  obtain ⟨ι, env, S, s, er, p⟩ := h
  unfold iAny at p
  cases e : tl env S with
  | ok x S1 =>
    rw [e] at p
    cases x with
    | str z => exact .inl ⟨ι, env, S, s, er, by unfold iTxt; rw [e]; exact p⟩
    | _ => exact .inr ⟨ι, env, S, s, er, by unfold iSeq; rw [e]; exact p⟩
  | ex c fs S1 => exact .inr ⟨ι, env, S, s, er, by unfold iSeq; rw [e]; rw [e] at p; exact p⟩
  | bad => exact .inr ⟨ι, env, S, s, er, by unfold iSeq; rw [e]; rw [e] at p; exact p⟩
end
/-! ### in: an item of a list or tuple, a sign of a text -/
def fInT (neg : Bool) (x y : D) (S : Sto) : R D := match y with
  | .str z => match x with
    | .str w => match w.cps.toList with
      | [c] => .ok (.bl (if neg then !decide (c ∈ z.cps.toList) else decide (c ∈ z.cps.toList))) S
      | _ => .bad
    | _ => .bad
  | y => fIn neg x y S
def rInT (K : PySem.W.Frag) (neg : Bool) : R2 := fun x y H Q => rIn K neg x y H Q ∨ (∃ (c : Nat) (z : Str), x = .str ⟨#[c]⟩ ∧ y = .str z ∧ Q (.bl (if neg then !decide (c ∈ z.cps.toList) else decide (c ∈ z.cps.toList))) H)
theorem oInT {X : Cx} : OpR X (compareOp .In) (rInT X.K false) := op_in_seq.or op_in_sign
theorem oNotInT {X : Cx} : OpR X (compareOp .NotIn) (rInT X.K true) := op_notIn_seq.or op_notIn_sign
theorem sInT {K : PySem.W.Frag} {neg : Bool} : OpS K (rInT K neg) (fInT neg) := by
  intro mg W σ ι H S x y dx dy Q s rx ry p
  unfold fInT at p
  split at p
  · split at p
    · rename_i w
      split at p
      · rename_i c hc
        cases rx; cases ry
        have hw : w = ⟨#[c]⟩ := by
          cases w with | mk a => cases a with | mk l => simp only at hc; rw [hc]
        exact .inr ⟨c, _, by rw [hw], rfl, p.ret s (.bl _)⟩
      · exact p.elim
    · exact p.elim
  · exact .inl (sIn mg W σ ι H S x y _ _ Q s rx ry p)
/-! ### a text times a number -/
def rMulS : R2 := fun x y H Q => ∃ (a : Str) (k : Int), x = .str a ∧ y = .int k ∧ 2 ≤ k ∧ k ≤ 10000 ∧ 1 ≤ a.length ∧ a.length ≤ 1000 ∧ Q (.str ⟨(List.replicate k.toNat a.cps).foldl (· ++ ·) #[]⟩) H
theorem rep_size (a : Array Nat) : ∀ (n : Nat) (acc : Array Nat), ((List.replicate n a).foldl (· ++ ·) acc).size = acc.size + n * a.size
  | 0, acc => by simp
  | n + 1, acc => by
    rw [List.replicate_succ, List.foldl_cons, rep_size a n, Array.size_append, Nat.succ_mul]
    omega
theorem op_mulS {X : Cx} : OpR X (binaryOp .Mult) rMulS := by
  intro pins s σ H x y v u Q I rx ry h
  obtain ⟨a, k, rfl, rfl, k2, kk, a1, aa, q⟩ := h
  obtain ⟨t, rfl⟩ := rx
  obtain ⟨t', rfl⟩ := ry
  have n1 : ¬ k < 1 := by omega
  have e1 : (k == 1 || a.length == 0) = false := by
    have h1 : (k == 1) = false := by simp; omega
    have h2 : (a.length == 0) = false := by simp; omega
    rw [h1, h2]; rfl
  have l : a.length * k.toNat ≤ sizeLine := by
    have : a.length * k.toNat ≤ 1000 * 10000 := Nat.mul_le_mul aa (by omega)
    exact Nat.le_trans this (by decide)
  refine PySem.P.mul_str ?_ (fun _ _ => ?_) (fun _ _ => ?_) ?_
  · rw [decide_eq_false (by omega), decide_eq_false (by omega)]; rfl
  · have : k * 1000 ≤ 2 ^ 63 - 1 := by omega
    have := (Int.le_ediv_iff_mul_le (by omega : 0 < k)).mpr (by omega : 1000 * k ≤ 2 ^ 63 - 1)
    omega
  · unfold PySem.Builtin.Str.tooLong
    rw [decide_eq_false (by omega)]
  · rw [if_neg n1, e1]
    refine ⟨?_, ?_⟩
    · show Array.size _ ≤ _
      rw [rep_size, Array.size_empty, Nat.zero_add, Nat.mul_comm]
      exact l
    · exact ⟨.str _, H, I.tok _, ⟨_, rfl⟩, q⟩
def repS (a : Str) (k : Int) : Str := ⟨(List.replicate k.toNat a.cps).foldl (· ++ ·) #[]⟩
def fMulS (x y : D) (S : Sto) : R D := match x, y with
  | .str a, .int k => if 2 ≤ k ∧ k ≤ 10000 ∧ 1 ≤ a.length ∧ a.length ≤ 1000 then .ok (.str (repS a k)) S else .bad
  | _, _ => .bad
theorem sMulS {K : PySem.W.Frag} : OpS K rMulS fMulS := by
  intro mg W σ ι H S x y dx dy Q s rx ry p
  unfold fMulS at p
  split at p
  · split at p
    · rename_i h
      cases rx; cases ry
      exact ⟨_, _, rfl, rfl, h.1, h.2.1, h.2.2.1, h.2.2.2, p.ret s (.str _)⟩
    · exact p.elim
  · exact p.elim
end
end Z
end

section
set_option Elab.async false
set_option linter.all false
set_option maxRecDepth 100000
set_option maxHeartbeats 1000000
namespace Z
noncomputable section
open PySem PySem.Spec PyProof.Rows L2
/-! ### enumerate(tuple, start=k): a pair (k + i, item) at turn i -/
/-- the i-th item of the tuple at a -/
def AtT (K : PySem.W.Frag) (a : Addr) (i : Nat) (H : Hp) (x : V) : Prop := ∀ ys, SqT K H a ys → ys[i]? = some x
def ItEn (K : PySem.W.Frag) (a : Addr) (k : Int) : It where
  go i H := ∃ ys y, SqT K H a ys ∧ ys[i]? = some y
  yld i H v H' := ∃ q y, v = V.ref q ∧ H q = none ∧ H' = upd H q (.tup [.int (k + (i : Nat)), y]) ∧ AtT K a i H y
  stop i H := ∃ ys : List V, SqT K H a ys ∧ ys.length = i
structure EnSt (a e j : Addr) (k : Int) (i : Nat) (h : Heap) : Prop where
  en : ∃ last, IsEnum h e j (k + (i : Nat)) last
  tu : h.IsTupleIter j a i
theorem EnSt.old {a e j b : Addr} {k : Int} {i : Nat} {h : Heap} (z : EnSt a e j k i h) (hb : b ∈ [e, j]) : ∃ o, h.get? b = some o ∧ ∀ v, o.data ≠ .cell v := by
  obtain ⟨⟨last, h1⟩, o, h2, _, h3⟩ := z
  simp only [List.mem_cons, List.not_mem_nil, or_false] at hb
  rcases hb with rfl | rfl
  · exact ⟨_, h1, fun _ q => nomatch q⟩
  · exact ⟨o, h2, fun v q => by rw [h3] at q; cases q⟩
theorem EnSt.lt {a e j b : Addr} {k : Int} {i : Nat} {h : Heap} (z : EnSt a e j k i h) (hb : b ∈ [e, j]) : b < h.objs.size := by
  obtain ⟨o, ho, _⟩ := z.old hb
  exact Heap.lt_size ho
theorem turn_en {P : Program} {w : World} {K : PySem.W.Frag} {es : List Expr} {nn : Nat} {tp : Pos} {k : Int} {a e j : Addr} (n1 : a ≠ j) (n2 : e ≠ a) (n3 : e ≠ j) :
    Turn P w K (.Tuple es nn tp) (ItEn K a k) [e, j] e (EnSt a e j k) := by
  have me : e ∈ [e, j] := by simp
  have mj : j ∈ [e, j] := by simp
  refine ⟨me, fun i h z b hb => z.old hb, fun i h h' z kp => ?_, ?_, ?_, fun A i s Q E z q => ?_⟩
  · obtain ⟨⟨last, h1⟩, h2⟩ := z
    exact ⟨⟨last, kp e me _ h1⟩, h2.at fun o q => kp j mj o q⟩
  · rintro X rfl rfl rfl hc i pins s σ H E I free z ⟨ys, y, sq, hy⟩
    obtain ⟨its, rv, isT, _⟩ := I.tuple sq
    obtain ⟨u, hu, ru⟩ := rv.get hy
    have hu2 : its.toArray[i]? = some u := by rw [List.getElem?_toArray]; exact hu
    have hlt : i < its.toArray.size := (Array.getElem?_eq_some_iff.mp hu2).1
    have hd : X.A.in1.in1.handled = none := I.ok.hd hc
    have dr := Draws.tuple (prog := X.prog) (w := X.w) (A := X.A.in1) hd j a n1 its.toArray
    obtain ⟨last, en⟩ := z.en
    have le := z.lt me
    have lj := z.lt mj
    refine wpAny_pyNext_enum_itemC dr en ⟨z.tu, isT⟩ hlt n3 (by simp [n2, n3]) fun x g1 tk hx out st1 tup sz kp => ?_
    obtain rfl : u = x := Option.some.inj (hu2.symm.trans hx)
    refine ⟨_, rfl, ?_⟩
    refine wpAny_letOwnedTupleGo_enum (s := ⟨g1, s.gens, s.drawn, tk + 1, s.os⟩) out fun g2 en2 sb => ?_
    have tup2 : g2.get? s.heap.objs.size = some { cls := .type "tuple", data := .seq #[.int (k + (i : Nat)) tk, u] } := (sb.2 _ (Nat.ne_of_gt le)).trans tup
    have fresh := I.hok.fresh (Nat.le_refl s.heap.objs.size)
    have pr : Vals [.int (k + (i : Nat)), y] [.int (k + (i : Nat)) tk, u] := .cons ⟨tk, rfl⟩ (.cons ru .nil)
    have keep2 : ∀ b o, b ∉ [e, j] → s.heap.get? b = some o → g2.get? b = some o := fun b o hb q => by
      simp only [List.mem_cons, List.not_mem_nil, or_false, not_or] at hb
      rw [sb.2 b hb.1]
      exact kp b o hb.1 hb.2 q
    have I2 := I.turnedNew (t' := tk + 1) (ob := .tup [.int (k + (i : Nat)), y]) keep2 free (Nat.le_refl _) ⟨(by decide : 2 ≤ sizeLine), _, pr, ⟨_, tup2, rfl, _, rfl⟩⟩
    refine ⟨V.ref s.heap.objs.size, _, I2, rfl, ⟨_, y, rfl, fresh, rfl, fun ys' sq' => by rw [I.tuple_inj sq' sq, hy]⟩, ⟨⟨u, ?_⟩, ?_⟩, fun b hb => ?_⟩
    · have ei : (k + (i : Nat)) + 1 = k + ((i + 1 : Nat) : Int) := by omega
      rw [← ei]; exact en2
    · exact st1.1.at fun o q => by rw [sb.2 j (Ne.symm n3)]; exact q
    · have := z.lt hb
      rw [upd_ne (Nat.ne_of_lt this)]
      exact (free b hb).1
  · rintro X rfl rfl rfl hc i pins s σ H E I free z ⟨ys, sq, hl⟩
    obtain ⟨its, rv, isT, _⟩ := I.tuple sq
    have hd : X.A.in1.in1.handled = none := I.ok.hd hc
    have hn : its.toArray.size = i := by rw [List.size_toArray, ← rv.length, hl]
    have dr := Draws.tuple (prog := X.prog) (w := X.w) (A := X.A.in1) hd j a n1 its.toArray
    obtain ⟨last, en⟩ := z.en
    have tu := z.tu
    rw [← hn] at tu en
    refine wpAny_pyNext_enum_endD dr en ⟨tu, isT⟩ fun g2 kp => ⟨rfl, ?_⟩
    obtain ⟨f0, f1, f2, f3, f4, f5⟩ := free j mj
    exact I.turned (t' := s.toks) kp f0 f1 f3 f4 f5
  · obtain ⟨⟨last, h1⟩, _⟩ := z
    exact wpAny_pyIter_enum h1 q
end
end Z
end

section
set_option Elab.async false
set_option linter.all false
set_option maxRecDepth 100000
set_option maxHeartbeats 1000000
namespace Z
noncomputable section
open PySem PySem.Spec PyProof.Rows L2
/-- what enumerate(v, ..) from k on lays down -/
def EnOb (j : Addr) (k : Int) : Obj := { cls := .type "enumerate", data := .fields #[.none, .bool false, .ref j, rawInt k, .none, .none] }
theorem meets_en1 {v : Value} {o : Obj} {Hh : Heap → Prop} (B : Begins v o Hh) :
    Meets (Builtin.«enumerate.__new__» ⟨[.type "enumerate", v], []⟩) (fun _ R s => Hh s.heap ∧ R (.ok (.ret (.ref (s.heap.push o).objs.size))) { s with heap := (s.heap.push o).push (EnOb s.heap.objs.size 0) }) :=
  .of_wp fun prog w A R s ⟨h1, h⟩ => by
    obtain ⟨hp, g, d, tk, os⟩ := s
    have sub := sub_enumerate
    have q1 : ∀ {A' : Around} {E : Value → Shared → Prop} {Q : Value → Shared → Prop}, Q (.ref hp.objs.size) ⟨hp.push o, g, d, tk, os⟩ → wpAny (model prog w) A' (pyIter v) Q E ⟨hp, g, d, tk, os⟩ := fun q => B.iter prog w _ _ ⟨hp, g, d, tk, os⟩ _ h1 q
    wp_walk using q1
    refine wpAny_stack_any (fun _ => wpAny_pure ?_)
    split
    · rename_i cc _ _ _ _ _
      cases (cc == Value.type "enumerate") <;> (wp_walk using q1; exact ⟨_, rfl, h⟩)
    · (wp_walk using q1; exact ⟨_, rfl, h⟩)
section
variable {P : Program} {w : World} {A : Around} {E : Value → Shared → Prop} {s : Shared}
/-- what stands behind enumerate(v, ..): its two cells -/
structure EnBeg (s : Shared) (o : Obj) (k : Int) (h' : Heap) : Prop where
  en : IsEnum h' (s.heap.objs.size + 1) s.heap.objs.size k .none
  it : h'.get? s.heap.objs.size = some o
  kp : ∀ b o, s.heap.get? b = some o → h'.get? b = some o
theorem call_en1 {v : Value} {o : Obj} {Hh : Heap → Prop} {Q : Value → Shared → Prop} (B : Begins v o Hh) (h1 : Hh s.heap) (q : ∀ h', EnBeg s o 0 h' → Q (.ref (s.heap.objs.size + 1)) { s with heap := h' }) :
    wpAny (model P w) A (call (.type "enumerate") [v]) Q E s := by
  have z1 : (s.heap.push o).objs.size = s.heap.objs.size + 1 := Heap.size_push ..
  have q2 : Q (.ref (s.heap.push o).objs.size) { s with heap := (s.heap.push o).push (EnOb s.heap.objs.size 0) } := by
    rw [z1]
    refine q _ ⟨?_, Heap.get?_push_of_some _ (Heap.get?_push_size _ B.free), fun b u e => Heap.get?_push_of_some _ (Heap.get?_push_of_some _ e)⟩
    have g := Heap.get?_push_size (s.heap.push o) (o := EnOb s.heap.objs.size 0) rfl
    rw [z1] at g
    exact g
  exact callType_new F.called_enumerate (by decide) (F.typeCall_enumerate_1 _) (F.newCall_enumerate_1 _) (fun obj => F.args_object_init_2 obj _) F.entry_enumerate_new (meets_en1 B) ⟨h1, ⟨⟨_, Heap.get?_push_size _ rfl, rfl⟩, q2⟩⟩
theorem call_enk {v : Value} {o : Obj} {Hh : Heap → Prop} {k : Int} {t : Tok} {Q : Value → Shared → Prop} (B : Begins v o Hh) (h1 : Hh s.heap) (k0 : -(2 ^ 63) ≤ k) (k1 : k < 2 ^ 63) (q : ∀ h', EnBeg s o k h' → Q (.ref (s.heap.objs.size + 1)) { s with heap := h' }) :
    wpAny (model P w) A (call (.type "enumerate") [v] [(Str.ofString "start", .int k t)]) Q E s :=
  enum_begins_start B h1 k0 k1 fun h' a b _ d => q h' ⟨a, b, d⟩
end
end
end Z
end

section
set_option Elab.async false
set_option linter.all false
set_option maxRecDepth 100000
set_option maxHeartbeats 1000000
namespace Z
noncomputable section
open PySem PySem.Spec PyProof.Rows L2
section
variable {M : Model} {A : Around} {E : Value → Shared → Prop} {s : Shared}
/-- a type called with keywords -/
theorem type_kw {pos : Pos} {T : String} {as : List (Bool × Sem Value)} {ks : List (Option Str × Sem Value)} {Q : Value → Shared → Prop} (n1 : as.any (·.1) = false) (n2 : ks.any (·.1.isNone) = false)
    (h : wpAny M A (evalArgs (.type T) true as ks) (fun a s1 => wpAny M A (call (.type T) a.pos a.kw) Q E s1) E s) : wpAny M A (callWith pos (.type T) [] as ks) Q E s := by
  unfold callWith
  refine wpAny_bind (wpAny_holding (wpAny_mono h (fun a s1 h1 => ?_) fun _ _ x => x))
  refine wpAny_bind (wpAny_standAt ?_)
  simp only [n1, n2, Bool.or_false]
  exact wpAny_bind (wpAny_pure (wpAny_bind (wpAny_mono h1 (fun r s2 hr => wpAny_bind (wpAny_holding (wpAny_point (wpAny_pure hr)))) fun _ _ x => x)))
end
section
variable {X : Cx} {e : Expr} {ta tk : TA} {p pos tpos kp : Pos} {es : List Expr} {kk : Nat} {kx : Expr}
def iEnT (K : PySem.W.Frag) (k : Int) (ta : TA) : TI := fun σ H R => ta σ H fun vs H1 => ∃ a xs, vs = [V.ref a] ∧ SqT K H1 a xs ∧ R (ItEn K a k) H1
theorem en_go {pins : List (Addr × Obj)} {s : Shared} {σ : L2.St} {H : Hp} {k : Int} {a : Addr} {xs : List V} {R : It → Hp → Prop} {its : Array Value} {h' : Heap} (I : Inv X pins σ H s) (sq : SqT X.K H a xs) (isT : s.heap.IsTuple a its)
    (B : EnBeg s { cls := .type "tuple_iterator", data := .fields #[.ref a, .int 0 0] } k h') (q : R (ItEn X.K a k) H) :
    wpAny (model X.prog X.w) X.A (pyIter (.ref (s.heap.objs.size + 1))) (PIE X pins σ (.Tuple es kk tpos) R) X.xe { s with heap := h' } := by
  have la : a < s.heap.objs.size := by obtain ⟨_, g, _⟩ := isT; exact Heap.lt_size g
  have I2 : Inv X pins σ H { s with heap := h' } := I.kept (t' := s.toks) B.kp
  have st0 : EnSt a (s.heap.objs.size + 1) s.heap.objs.size k 0 h' := ⟨⟨.none, by have := B.en; simpa using this⟩, ⟨_, B.it, rfl, rfl⟩⟩
  refine wpAny_pyIter_enum B.en ⟨s.heap.objs.size + 1, [s.heap.objs.size + 1, s.heap.objs.size], _, _, H, rfl, I2, turn_en (Nat.ne_of_lt la) (Nat.ne_of_gt (Nat.lt_succ_of_lt la)) (Nat.succ_ne_self _), st0, fun b hb => ?_, q⟩
  have hle : s.heap.objs.size ≤ b := by
    rcases List.mem_cons.mp hb with z | z
    · rw [z]; exact Nat.le_add_right _ _
    · rw [List.mem_singleton.mp z]; exact Nat.le_refl _
  exact I.fpOk hle (I.hok.fresh hle)
theorem pi_enT (hg : Gl X "enumerate") (hm : X.mg "enumerate" = none) (ha : PA X [e] ta) (hs : starEach [e] X.env = [(false, eval e X.env)] := by rfl) :
    PI X (.Tuple es kk tpos) (.Call (.Name "enumerate" p) [e] [] pos) (iEnT X.K 0 ta) := by
  refine ⟨fun pins s σ H R I h => Call_ (ld_blt I hg hm boot_enumerate (callWith_type1 (thn (ha.run pos pins s σ H _ I h) fun us s1 ⟨vs, H1, I1, r1, a, xs, ev, sq, q⟩ => ?_) hs rfl))⟩
  subst ev
  obtain ⟨u, rfl, ru⟩ := r1.one
  cases ru
  obtain ⟨its, rv, isT, _⟩ := I1.tuple sq
  exact call_en1 (begins_tuple a its.toArray) isT fun h' B => en_go I1 sq isT B q
theorem pi_enK {k : Int} (k0 : -(2 ^ 63) ≤ k) (k1 : k < 2 ^ 63) (hg : Gl X "enumerate") (hm : X.mg "enumerate" = none) (ha : PA X [e] ta) (hk : PK X [⟨some "start", kx, kp⟩] (fun σ H Q => Q [V.int k] H))
    (he : backTo pos (starEach [e] X.env) = (false, eval e X.env) :: backTo pos (starEach [] X.env) := by rfl) (hp : (backTo pos (starEach [e] X.env)).any (·.1) = false := by rfl)
    (h1 : (backToKw pos (keywordEach [⟨some "start", kx, kp⟩] X.env)).all (·.1.isSome) = true := by rfl) (h2 : (backToKw pos (keywordEach [⟨some "start", kx, kp⟩] X.env)).any (·.1.isNone) = false := by rfl) (h3 : (backToKw pos (keywordEach [⟨some "start", kx, kp⟩] X.env)).filterMap (·.1) = [Str.ofString "start"] := by rfl) :
    PI X (.Tuple es kk tpos) (.Call (.Name "enumerate" p) [e] [⟨some "start", kx, kp⟩] pos) (iEnT X.K k ta) := by
  refine ⟨fun pins s σ H R I h => wpAny_Call_Name_kw (ld_blt I hg hm boot_enumerate (type_kw hp h2 ?_))⟩
  rw [he]
  refine evalArgs_kwB h1 ?_
  rw [← he]
  refine thn (ha.run pos pins s σ H _ I h) fun us s1 ⟨vs, H1, I1, r1, a, xs, ev, sq, q⟩ => ?_
  refine thn (hk.run pos pins s1 σ H1 (fun zs H2 => zs = [V.int k] ∧ H2 = H1) I1 ⟨rfl, rfl⟩) fun ws s2 ⟨zs, H2, I2, r2, ez, eH⟩ => ?_
  subst ev ez eH
  rw [h3]
  obtain ⟨u, rfl, ru⟩ := r1.one
  obtain ⟨v, rfl, rv2⟩ := r2.one
  cases ru
  obtain ⟨t, rfl⟩ := rv2
  obtain ⟨its, rv, isT, _⟩ := I2.tuple sq
  exact call_enk (begins_tuple a its.toArray) isT k0 k1 fun h' B => en_go I2 sq isT B q
end
end
end Z
end

section
set_option Elab.async false
set_option linter.all false
set_option maxRecDepth 100000
set_option maxHeartbeats 1000000
namespace Z
noncomputable section
open PySem PySem.Spec PyProof.Rows L2
/-! ### enumerate -/
def enuD : Int → List D → List D
  | _, [] => []
  | k, x :: xs => .tup [.int k, x] :: enuD (k + 1) xs
theorem enuD_get : ∀ (xs : List D) (k : Int) (i : Nat), (enuD k xs)[i]? = (xs[i]?).map fun x => .tup [.int (k + (i : Nat)), x]
  | [], k, i => by simp [enuD]
  | x :: xs, k, 0 => by simp [enuD]
  | x :: xs, k, i + 1 => by
    have h := enuD_get xs (k + 1) i
    simp only [enuD, List.getElem?_cons_succ, h]
    congr 1
    funext y
    have : k + 1 + (i : Int) = k + ((i + 1 : Nat) : Int) := by omega
    rw [this]
theorem enuD_len : ∀ (xs : List D) (k : Int), (enuD k xs).length = xs.length
  | [], _ => rfl
  | x :: xs, k => by simp only [enuD, List.length_cons, enuD_len xs]
def iEn (k : Int) (d : Den) : DenI := fun env S => (d env S).bind fun x S1 => match x with
  | .tup xs => .ok (enuD k xs, fun _ => True) S1
  | _ => .bad
section
variable {X : Cx} {W : WX} {e : Expr} {es : List Expr} {d : Den} {da : DenA} {pos p tpos kp : Pos} {kk : Nat} {kx : Expr}
theorem en_ok {K : PySem.W.Frag} {ι : Em} {H : Hp} {a : Addr} {k : Int} {xs : List D} (r : Rp K H ι (.ref a) (.tup xs)) : ItOk K (ItEn K a k) (enuD k xs) (fun _ => True) ι H := by
  have get : ∀ (ι2 : Em) (H2 : Hp), Ext ι H ι2 H2 → ∃ vs, SqT K H2 a vs ∧ Rps K H2 ι2 vs xs := fun ι2 H2 e => by
    obtain ⟨b, vs, eb, sq, rs⟩ := (r.ext e).tup_inv
    cases eb
    exact ⟨vs, sq, rs⟩
  refine ⟨fun ι2 H2 S2 i x e s _ hx => ?_, fun ι2 H2 S2 e s _ => ?_⟩
  · obtain ⟨vs, sq, rs⟩ := get ι2 H2 e
    rw [enuD_get] at hx
    cases hy : xs[i]? with
    | none => rw [hy] at hx; cases hx
    | some y =>
      rw [hy] at hx; cases hx
      obtain ⟨v, hv, rv⟩ := rs.get hy
      refine ⟨⟨vs, v, sq, hv⟩, ?_⟩
      rintro w H3 ⟨q, u, rfl, hq, rfl, at_⟩
      have eu := at_ vs sq
      rw [hv] at eu; cases eu
      exact ⟨Ext.new hq, s.new hq, .tup (s.out hq) upd_same (.cons (.int _) (.cons (rv.ext (Ext.new hq)) .nil))⟩
  · obtain ⟨vs, sq, rs⟩ := get ι2 H2 e
    exact ⟨vs, sq, by rw [enuD_len, rs.length]⟩
theorem rd_en {K : PySem.W.Frag} {mg : Str → Option Value} {k : Int} {σ : L2.St} {H : Hp} {R : It → Hp → Prop} (h : rdI K mg W (iEn k d) σ H R) : iEnT K k (rdA K mg W (aCons d aNil)) σ H R := by
  obtain ⟨ι, env, S, s, er, p⟩ := h
  refine ⟨ι, env, S, s, er, ?_⟩
  unfold iEn at p
  unfold aCons aNil
  cases hd : d env S with
  | ok x S1 =>
    rw [hd] at p
    cases x with
    | tup xs =>
      intro ι1 H1 vs e1 s1 r1
      obtain ⟨v, rfl, rv⟩ := rps1 r1
      obtain ⟨b, vs, rfl, sq, rs⟩ := rv.tup_inv
      exact ⟨b, vs, rfl, sq, p ι1 H1 _ e1 s1 (en_ok rv)⟩
    | _ => exact p.elim
  | ex c fs S1 => rw [hd] at p; exact p
  | bad => rw [hd] at p; exact p.elim
theorem i_en (hg : Gl X "enumerate") (hm : X.mg "enumerate" = none) (ha : EE X W e d) (hs : starEach [e] X.env = [(false, eval e X.env)] := by rfl) : II X W (.Tuple es kk tpos) (.Call (.Name "enumerate" p) [e] [] pos) (iEn 0 d) :=
  PI.imp (pi_enT hg hm (a_cons ha a_nil hs) hs) fun σ H R h => rd_en h
theorem i_enK {k : Int} {j : Nat} {cp : Pos} (k0 : -(2 ^ 63) ≤ k) (k1 : k < 2 ^ 63) (hg : Gl X "enumerate") (hm : X.mg "enumerate" = none) (ha : EE X W e d) (hs : starEach [e] X.env = [(false, eval e X.env)] := by rfl)
    (he : backTo pos (starEach [e] X.env) = (false, eval e X.env) :: backTo pos (starEach [] X.env) := by rfl) (hp : (backTo pos (starEach [e] X.env)).any (·.1) = false := by rfl)
    (h1 : (backToKw pos (keywordEach [⟨some "start", .Constant (.int k) j cp, kp⟩] X.env)).all (·.1.isSome) = true := by rfl) (h2 : (backToKw pos (keywordEach [⟨some "start", .Constant (.int k) j cp, kp⟩] X.env)).any (·.1.isNone) = false := by rfl) (h3 : (backToKw pos (keywordEach [⟨some "start", .Constant (.int k) j cp, kp⟩] X.env)).filterMap (·.1) = [Str.ofString "start"] := by rfl) :
    II X W (.Tuple es kk tpos) (.Call (.Name "enumerate" p) [e] [⟨some "start", .Constant (.int k) j cp, kp⟩] pos) (iEn k d) :=
  PI.imp (pi_enK k0 k1 hg hm (a_cons ha a_nil hs) (pk_cons pe_int pk_nil) he hp h1 h2 h3) fun σ H R h => rd_en h
end
end
end Z
end

section
set_option Elab.async false
set_option linter.all false
set_option maxRecDepth 100000
set_option maxHeartbeats 1000000
namespace Z
noncomputable section
open PySem PySem.Spec PyProof.Rows L2
/-! ### insert, pop(i) -/
def fIns (x : D) (ys : List D) (S : Sto) : R D := match x, ys with
  | .ref n, [.int i, y] => match S[n]? with
    | some (.lst xs) => if FitS xs.length ∧ 0 ≤ i ∧ i < 1000000 then .ok .non (S.set n (.lst (xs.take i.toNat ++ y :: xs.drop i.toNat))) else .bad
    | none => .bad
  | _, _ => .bad
def fPopAt (x : D) (ys : List D) (S : Sto) : R D := match x, ys with
  | .ref n, [.int i] => match S[n]? with
    | some (.lst xs) => if 0 ≤ i ∧ i < 1000000 then match xs[i.toNat]? with
      | some y => .ok y (S.set n (.lst (xs.eraseIdx i.toNat)))
      | none => .bad
      else .bad
    | none => .bad
  | _, _ => .bad
section
variable {K : PySem.W.Frag}
theorem Rps.erase {H : Hp} {ι : Em} {vs : List V} {ds : List D} (k : Nat) (r : Rps K H ι vs ds) : Rps K H ι (vs.eraseIdx k) (ds.eraseIdx k) := by
  rw [List.eraseIdx_eq_take_drop_succ, List.eraseIdx_eq_take_drop_succ]
  exact (r.take k).append (r.drop (k + 1))
theorem sIns : MzS K (fun x vs H Q => ∃ (l : Addr) (xs : List V) (i : Int) (y : V), x = .ref l ∧ vs = [.int i, y] ∧ H l = some (.lst xs) ∧ xs.length < sizeLine ∧ 0 ≤ i ∧ i < 2 ^ 63 ∧ Q .non (upd H l (.lst (xs.take i.toNat ++ [y] ++ xs.drop i.toNat)))) fIns := by
  intro mg W σ ι H S x dx ys dys Q s r rs p
  unfold fIns at p
  split at p
  · rename_i n i y
    split at p
    · rename_i xs e
      split at p
      · rename_i hl
        obtain ⟨h1, h2, h3⟩ := hl
        obtain ⟨a, vs, rfl, ea, h4, h5⟩ := refL s r e
        obtain ⟨u, v, rfl, ru, rv⟩ := rps2 rs
        cases ru
        refine ⟨a, vs, i, v, rfl, rfl, h4, by rw [h5.length]; exact h1, h2, Int.lt_trans h3 (by decide), p ι _ _ (Ext.put ea) (s.put ea ?_) .non⟩
        have := ((h5.take i.toNat).append (.cons rv .nil)).append (h5.drop i.toNat)
        have e5 : xs.take i.toNat ++ y :: xs.drop i.toNat = xs.take i.toNat ++ [y] ++ xs.drop i.toNat := by simp
        rw [e5]
        exact this
      · exact p.elim
    · exact p.elim
  · exact p.elim
theorem sPopAt : MzS K rPopAt fPopAt := by
  intro mg W σ ι H S x dx ys dys Q s r rs p
  unfold fPopAt at p
  split at p
  · rename_i n i
    split at p
    · rename_i xs e
      split at p
      · rename_i hi
        split at p
        · rename_i y e2
          obtain ⟨a, vs, rfl, ea, h1, h2⟩ := refL s r e
          obtain ⟨w, rfl, rw1⟩ := rps1 rs
          cases rw1
          obtain ⟨u, e3, ru⟩ := h2.get e2
          have hlt := (List.getElem?_eq_some_iff.mp e3).1
          refine ⟨a, vs, i, i.toNat, u, rfl, rfl, h1, Int.le_trans (by decide) hi.1, Int.lt_trans hi.2 (by decide), ?_, e3, p ι _ _ (Ext.put ea) (s.put ea (h2.erase _)) (ru.ext (Ext.put ea))⟩
          unfold seqIndex?
          have n1 : ¬ i < 0 := by omega
          rw [if_neg n1]
          have n2 : (decide (0 ≤ i) && decide (i < (vs.length : Int))) = true := by
            rw [Bool.and_eq_true, decide_eq_true_eq, decide_eq_true_eq]
            omega
          simp only [n2, if_true]
        · exact p.elim
      · exact p.elim
    · exact p.elim
  · exact p.elim
end
/-! ### truth of values -/
def fTr (x : D) (S : Sto) : R Bool := match x with
  | .bl c => .ok c S
  | .int i => .ok (i != 0) S
  | x => match seqOf S x with
    | some xs => .ok (!xs.isEmpty) S
    | none => .bad
def tTr (a : Den) : DenT := fun env S => (a env S).bind fTr
section
variable {X : Cx} {W : WX} {a e : Expr} {es : List Expr} {d : Den} {da : DenA} {pos p p2 pos2 sp : Pos}
theorem t_Tr (h : EE X W a d) (he : ∀ whole, isTrue a X.env whole = (do let v ← whole; standAt a.pos; holding [v] (truthy v)) := by intro _; rfl) : TT' X W a (tTr d) := PT.imp (pt_truth h he) fun σ H Q h => by
  obtain ⟨ι, env, S, s, er, p⟩ := h
  refine ⟨ι, env, S, s, er, (Post.bind (Rel' := Rp X.K) p).mono ?_⟩
  rintro x H1 ⟨ι1, dx, S1, e1, s1, r1, p1⟩
  have sq : ∀ xs, seqOf S1 dx = some xs → Post X.K X.mg (fun _ _ b c => b = c) W σ ι1 H1 (R.ok (!xs.isEmpty) S1) Q → ∃ k, TruV X.K x H1 k ∧ Q k H1 := fun xs e q => by
    obtain ⟨a, vs, rfl, h1, h2⟩ := seq_inv s1 r1 e
    have hl : vs.isEmpty = xs.isEmpty := by
      have := h2.length
      cases vs <;> cases xs <;> simp_all
    refine ⟨!xs.isEmpty, ?_, q.ret s1 rfl⟩
    rcases h1 with h1 | h1
    · exact .inl ⟨vs, h1, by rw [hl]⟩
    · exact .inr (.inl ⟨vs, h1, by rw [hl]⟩)
  cases dx with
  | bl c => cases r1; exact ⟨c, rfl, p1.ret s1 rfl⟩
  | int i => cases r1; exact ⟨_, rfl, p1.ret s1 rfl⟩
  | tup xs => exact sq _ rfl p1
  | lst xs => exact sq _ rfl p1
  | frz xs => exact sq _ rfl p1
  | ref n =>
    unfold fTr at p1
    simp only at p1
    split at p1
    · rename_i xs e; exact sq _ e p1
    · exact p1.elim
  | _ => exact p1.elim
/-! ### a starred item -/
def aStar (d : Den) (da : DenA) : DenA := fun env S => (d env S).bind fun x S1 => match seqOf S1 x with
  | some xs => (da env S1).bind fun ys S2 => .ok (xs ++ ys) S2
  | none => .bad
theorem a_star (h : EE X W e d) (hr : AA X W es da) (hs : starEach (.Starred e p :: es) X.env = (true, eval e X.env) :: starEach es X.env := by rfl) : AA X W (.Starred e p :: es) (aStar d da) := PA.imp (StX.pa_star h hr hs) fun σ H Q h => by
  obtain ⟨ι, env, S, s, er, p⟩ := h
  refine ⟨ι, env, S, s, er, (Post.bind (Rel' := Rp X.K) p).mono ?_⟩
  rintro x H1 ⟨ι1, dx, S1, e1, s1, r1, p1⟩
  split at p1
  · rename_i xs e
    obtain ⟨a, vs, rfl, h1, h2⟩ := seq_inv s1 r1 e
    refine ⟨a, vs, rfl, h1.symm, ι1, env, S1, s1, er.ext e1, (Post.bind (Rel' := Rps X.K) p1).mono ?_⟩
    rintro ys H2 ⟨ι2, dys, S2, e2, s2, r2, p2⟩
    exact p2.ret s2 ((h2.ext e2).append r2)
  · exact p1.elim
end
end
end Z
end

section
set_option Elab.async false
set_option linter.all false
set_option maxRecDepth 100000
set_option maxHeartbeats 1000000
namespace Z
noncomputable section
open PySem PySem.Spec PyProof.Rows L2
/-! ### sorted(set(tuple of numbers)) -/
def insS (k : Int) : List Int → List Int
  | [] => [k]
  | x :: xs => if k < x then k :: x :: xs else if k = x then x :: xs else x :: insS k xs
def sset (ns : List Int) : List Int := ns.foldr insS []
theorem insS_mem {k j : Int} : ∀ {xs : List Int}, j ∈ insS k xs ↔ j = k ∨ j ∈ xs
  | [] => by simp [insS]
  | x :: xs => by
    unfold insS
    split
    · simp
    · split
      · rename_i h; subst h; simp
      · simp only [List.mem_cons, insS_mem (xs := xs)]
        constructor
        · rintro (h | h | h)
          · exact .inr (.inl h)
          · exact .inl h
          · exact .inr (.inr h)
        · rintro (h | h | h)
          · exact .inr (.inl h)
          · exact .inl h
          · exact .inr (.inr h)
theorem insS_pw {k : Int} : ∀ {xs : List Int}, xs.Pairwise (· < ·) → (insS k xs).Pairwise (· < ·)
  | [], _ => by simp [insS]
  | x :: xs, h => by
    obtain ⟨h1, h2⟩ := List.pairwise_cons.mp h
    unfold insS
    split
    · rename_i hk
      refine List.pairwise_cons.mpr ⟨fun j hj => ?_, h⟩
      rcases List.mem_cons.mp hj with rfl | hj
      · exact hk
      · exact Int.lt_trans hk (h1 j hj)
    · split
      · exact h
      · rename_i a b
        refine List.pairwise_cons.mpr ⟨fun j hj => ?_, insS_pw h2⟩
        rcases insS_mem.mp hj with rfl | hj
        · omega
        · exact h1 j hj
theorem sset_mem {j : Int} : ∀ {ns : List Int}, j ∈ sset ns ↔ j ∈ ns
  | [] => by simp [sset]
  | x :: xs => by
    have ih := sset_mem (j := j) (ns := xs)
    unfold sset at ih ⊢
    rw [List.foldr_cons, insS_mem, ih, List.mem_cons]
theorem sset_pw : ∀ {ns : List Int}, (sset ns).Pairwise (· < ·)
  | [] => by simp [sset]
  | x :: xs => by
    have ih := sset_pw (ns := xs)
    unfold sset at ih ⊢
    rw [List.foldr_cons]
    exact insS_pw ih
/-- strictly ascending rows with the same numbers are one -/
theorem pw_uniq : ∀ {xs ys : List Int}, xs.Pairwise (· < ·) → ys.Pairwise (· < ·) → (∀ j, j ∈ xs ↔ j ∈ ys) → xs = ys
  | [], [], _, _, _ => rfl
  | [], y :: ys, _, _, h => by have := (h y).mpr (by simp); cases this
  | x :: xs, [], _, _, h => by have := (h x).mp (by simp); cases this
  | x :: xs, y :: ys, hx, hy, h => by
    obtain ⟨a1, a2⟩ := List.pairwise_cons.mp hx
    obtain ⟨b1, b2⟩ := List.pairwise_cons.mp hy
    have e : x = y := by
      rcases List.mem_cons.mp ((h x).mp (by simp)) with e | e
      · exact e
      · rcases List.mem_cons.mp ((h y).mpr (by simp)) with e' | e'
        · exact e'.symm
        · have := a1 y e'
          have := b1 x e
          omega
    subst e
    congr 1
    refine pw_uniq a2 b2 fun j => ⟨fun hj => ?_, fun hj => ?_⟩
    · rcases List.mem_cons.mp ((h j).mp (List.mem_cons_of_mem _ hj)) with e | e
      · subst e; have := a1 j hj; omega
      · exact e
    · rcases List.mem_cons.mp ((h j).mpr (List.mem_cons_of_mem _ hj)) with e | e
      · subst e; have := b1 j hj; omega
      · exact e
def intsD : List D → Option (List Int)
  | [] => some []
  | .int i :: xs => (intsD xs).map fun is => i :: is
  | _ :: _ => none
theorem intsD_map : ∀ ns : List Int, intsD (ns.map D.int) = some ns
  | [] => rfl
  | n :: ns => by rw [List.map_cons, intsD, intsD_map ns]; rfl
theorem ints_rps {K : PySem.W.Frag} {H : Hp} {ι : Em} : ∀ {xs : List D} {vs : List V} {ns : List Int}, Rps K H ι vs xs → intsD xs = some ns → vs = ns.map V.int
  | [], _, _, r, e => by cases r; cases e; rfl
  | .int i :: xs, _, ns, r, e => by
    cases r with
    | cons r1 r2 =>
      cases r1
      rw [intsD] at e
      cases q : intsD xs with
      | none => rw [q] at e; cases e
      | some is => rw [q] at e; cases e; rw [ints_rps r2 q]; rfl
theorem int_rps {K : PySem.W.Frag} {H : Hp} {ι : Em} : ∀ ns : List Int, Rps K H ι (ns.map V.int) (ns.map D.int)
  | [] => .nil
  | n :: ns => .cons (.int n) (int_rps ns)
section
variable {X : Cx} {W : WX} {e : Expr} {te : TE} {d : Den} {p p2 pos pos2 : Pos}
def rSetTu (K : PySem.W.Frag) (w : World) (vs : List V) (H : Hp) (Q : VK) : Prop := ∃ (l : Addr) (ns : List Int), vs = [V.ref l] ∧ SqT K H l (ns.map V.int) ∧ ns.length < 60 ∧ ∀ (q : Addr) (c : Nat), H q = none → c ≤ ns.length → Q (.ref q) (upd H q (SetO w q (fun j => decide (j ∈ ns)) c))
theorem cr_setTu (hc : X.calm = true) : CallR X (.type "set") (rSetTu X.K X.w) := by
  rintro pins s σ H xs us Q I r ⟨l, ns, rfl, sq, hl, q⟩
  obtain ⟨u, rfl, ru⟩ := r.one
  cases ru
  obtain ⟨its, rv, isT, _⟩ := I.tuple sq
  refine call_set_tupI ns (I.ok.hd hc) isT (ints_of_vals rv) (by unfold scanBound; omega) fun h' tk c R hcn k => ?_
  exact ⟨.ref s.heap.objs.size, _, I.laid (t' := tk) k (Nat.le_refl _) (setO_new R), rfl, q _ c (I.hok.fresh (Nat.le_refl _)) hcn⟩
def dSoSet (d : Den) : Den := fun env S => (d env S).bind fun x S1 => match x with
  | .tup xs => match intsD xs with
    | some ns => if ns.length < 60 then .ok (.lst ((sset ns).map D.int)) S1 else .bad
    | none => .bad
  | _ => .bad
theorem e_soSet (hc : X.calm = true) (g1 : Gl X "sorted") (m1 : X.mg "sorted" = none) (g2 : Gl X "set") (m2 : X.mg "set" = none) (h : EE X W e d)
    (s1 : starEach [e] X.env = [(false, eval e X.env)] := by rfl) (s2 : starEach [.Call (.Name "set" p2) [e] [] pos2] X.env = [(false, eval (.Call (.Name "set" p2) [e] [] pos2) X.env)] := by rfl) :
    EE X W (.Call (.Name "sorted" p) [.Call (.Name "set" p2) [e] [] pos2] [] pos) (dSoSet d) := by
  have c1 := pe_callTy (x := "set") (p := p2) (pos := pos2) (cr_setTu hc) g2 m2 boot_set (pa_cons h pa_nil s1) (by decide) (by decide) s1 rfl
  have c2 := pe_callB (x := "sorted") (p := p) (pos := pos) (cr_sortedSet hc) g1 m1 boot_sorted (pa_cons c1 pa_nil s2) (by decide) (by decide) s2 rfl
  refine PE.imp c2 fun σ H Q h => ?_
  obtain ⟨ι, env, S, s, er, p⟩ := h
  refine ⟨ι, env, S, s, er, ?_⟩
  refine (Post.bind (Rel' := Rp X.K) p).mono ?_
  rintro x H1 ⟨ι1, dx, S1, e1, s1, r1, p1⟩
  split at p1
  · rename_i xs
    split at p1
    · rename_i ns en
      split at p1
      · rename_i hl
        obtain ⟨b, vs, rfl, sq, rs⟩ := r1.tup_inv
        have ev := ints_rps rs en
        subst ev
        refine ⟨b, ns, rfl, sq, hl, fun q c hq hcn => ⟨q, _, c, rfl, upd_same, by omega, fun ms t pw mem hlen ht => ?_⟩⟩
        have em : ms = sset ns := pw_uniq pw sset_pw fun j => by rw [mem, sset_mem, decide_eq_true_eq]
        subst em
        have E1 : Ext ι1 H1 (ι1.ban q) (upd H1 q (SetO X.w q (fun j => decide (j ∈ ns)) c)) := Ext.banned hq
        have S1' := s1.banned (o := SetO X.w q (fun j => decide (j ∈ ns)) c) hq
        refine p1 _ _ _ (E1.tr S1' (Ext.new ht)) (S1'.new ht) (.lst (S1'.out ht) upd_same (int_rps _))
      · exact p1.elim
    · exact p1.elim
  · exact p1.elim
end
end
end Z
end

section
set_option Elab.async false
set_option linter.all false
set_option maxRecDepth 100000
set_option maxHeartbeats 1000000
namespace Z
noncomputable section
open PySem PySem.Spec PyProof.Rows L2
def sRetN : SDen := fun _ S => F.rt .non S
section
variable {X : Cx} {W : WX} {pos : Pos}
theorem s_retN : SS X W (.Return none pos) sRetN := PS.imp ps_retN fun Dn σ H h => by
  obtain ⟨ι, env, S, s, er, p⟩ := h
  exact p ι H .non Ext.refl s .non
end
end
end Z
end

section
set_option Elab.async false
set_option linter.all false
set_option maxRecDepth 100000
set_option maxHeartbeats 1000000
namespace Z
open PySem PySem.Spec PyProof.Rows L2
theorem look_map {f : Str × NameKind → Str × NameKind} (hf : ∀ p, (f p).1 = p.1) {x : Str} {k : NameKind} : ∀ {ns : List (Str × NameKind)}, ns.lookup x = some k → (ns.map f).lookup x = some (f (x, k)).2
  | [], h => by cases h
  | (n, j) :: r, h => by
    have e : f (n, j) = (n, (f (n, j)).2) := Prod.ext (hf (n, j)) rfl
    rw [List.map_cons, e, List.lookup_cons]
    rw [List.lookup_cons] at h
    by_cases hx : (x == n) = true
    · rw [hx] at h ⊢
      simp only [Option.some.injEq] at h ⊢
      have : x = n := eq_of_beq hx
      subst this; subst h; rfl
    · rw [Bool.not_eq_true] at hx
      rw [hx] at h ⊢
      exact look_map hf h
theorem blk_rel {N : List Str} {sc scope : Scope} {own : List (Str × Nat)} {env : PySem.Env} (h : BlkOk N sc scope own) : BlkOk N (relabel sc env) scope own := by
  refine ⟨h.kind, h.uniq, h.ix, fun y hy e => ?_, h.own⟩
  have g : ∀ k, sc.names.lookup y.1 = some k → (k = .cell ∨ k = .free) → (relabel sc env).names.lookup y.1 = some .cell ∨ (relabel sc env).names.lookup y.1 = some .free := fun k hk hc => by
    have m := look_map (f := fun (p : Str × NameKind) => if (p.2 == NameKind.free && env.scope.kind == .function && env.kindOf p.1 == some .cell) then (p.1, NameKind.cell) else (p.1, p.2)) (fun p => by split <;> rfl) hk
    have r : (relabel sc env).names.lookup y.1 = _ := m
    rw [r]
    split
    · exact .inl rfl
    · rcases hc with rfl | rfl
      · exact .inl rfl
      · exact .inr rfl
  rcases h.free y hy e with q | q
  · exact g _ q (.inl rfl)
  · exact g _ q (.inr rfl)
end Z
end

section
set_option Elab.async false
set_option linter.all false
set_option maxRecDepth 100000
set_option maxHeartbeats 1000000
/-! defs that are called while an error is handled -/
namespace Z
noncomputable section
open PySem PySem.Spec PyProof.Rows L2
theorem takes0N {X : Cx} : L2N.Takes X (fun _ _ _ _ => False) := fun _ _ x => by
  obtain ⟨_, _, _, _, _, _, _, _, _, _, _, _, _, _, _, _, z⟩ := x
  exact z.elim
abbrev RoomH := L2H.RoomH
theorem roomS {k : Nat} {A : Around} {h : Option Value} (r : Room k A) : L2H.RoomH k (A.mark h) := ⟨r.dp, r.un⟩
theorem RoomH.units {k : Nat} {A : Around} (r : L2H.RoomH k A) : A.units + 64 < cLine := by have := r.un; omega
abbrev FnZH (P : Program) (w : World) (K : PySem.W.Frag) (mg : Str → Option Value) (base : Heap) (k : Nat) (f : Addr) (fd : FuncData) (ps : List Str) (F : FD) : Prop := L2H.FnH P w K mg base (L2N.CX P w) k f fd ps (spOf K mg ps.length F)
section
variable {P : Program} {w : World} {K : PySem.W.Frag} {mg : Str → Option Value} {base : Heap}
theorem fn_okH {x qual : Str} {st : Stmt} {f : Addr} {fd : FuncData} {N ps : List Str} {k : Nat} {body : SDen} (F : Fun K x qual st f fd) (S : FnScope N ps (defScope st)) (hN : ps.length ≤ N.length)
    (hb : ∀ (cdv : Value) (A : Around) (outer : List PySem.Env) (s : Shared) (H : Hp) (E : XK) (p : Addr × Obj), L2H.RoomH k (A.deeper (envOfC qual (defScope st) s.heap.objs.size f cdv)) → L2H.HotC (L2H.cxH (L2N.CX P w) P w K mg base N qual (defScope st) f cdv A outer s H E p) →
      L2N.Takes (L2H.cxH (L2N.CX P w) P w K mg base N qual (defScope st) f cdv A outer s H E p) (wE E) → SSs (L2H.cxH (L2N.CX P w) P w K mg base N qual (defScope st) f cdv A outer s H E p) (wE E) (defBody st) body) :
    FnZH P w K mg base (k + 1) f fd ps (fnF N.length body) := by
  obtain ⟨oc, od, kV, doc, pm, an, cdv, ct, osl, rfl, lk, hcd⟩ := F.ex
  refine L2H.fn_ofH lk hcd S (fun vs H Q E h => h.1) fun A outer s H vs Q E p hot hr h => ?_
  refine ⟨_, hb cdv A outer s H E p hr ⟨p, hot, List.mem_singleton.mpr rfl⟩ (L2N.takes_of rfl rfl rfl rfl), ?_⟩
  obtain ⟨hl, ι, ds, S0, sr, r, q⟩ := h
  refine ⟨ι, _, S0, sr, er_start r (by rw [hl]; exact hN), ?_⟩
  unfold fnF at q
  show PostS K mg (wE E) ι H (body (ds.map some ++ List.replicate (N.length - ds.length) none) S0) _
  cases z : body (ds.map some ++ List.replicate (N.length - ds.length) none) S0 with
  | nx e S' => rw [z] at q; exact fun ι' H' σ' e1 s1 _ => q ι' H' .non e1 s1 .non
  | rt d S' => rw [z] at q; exact q
  | ex c fs e S' => rw [z] at q; exact fun ι' H' σ' dd C gs e1 s1 _ => q ι' H' dd C gs e1 s1
  | bk e S' => rw [z] at q; exact q.elim
  | ct e S' => rw [z] at q; exact q.elim
  | bad => rw [z] at q; exact q.elim
theorem fn_badH {f : Addr} {fd : FuncData} {ps : List Str} {k : Nat} : FnZH P w K mg base k f fd ps (fun _ _ => .bad) :=
  ⟨fun vs H Q E h => h.1, fun A outer s H args us vs Q E p hr hot hp e0 hb rv h => by
    obtain ⟨_, ι, ds, S, _, _, q⟩ := h
    exact q.elim⟩
end
section
variable {X : Cx} {W : WX} {k : Nat} {f : Addr} {fd : FuncData} {ps : List Str} {F : FD} {us : List Value} {x : Str} {p pos : Pos} {e : Expr} {es : List Expr} {da : DenA}
theorem e_callH {n : Nat} (Fk : FnZH X.prog X.w X.K X.mg X.base k f fd ps F) (hr : L2H.RoomH k X.A) (hot : L2H.HotC X) (hm : X.mg x = some (.ref f)) (hk : PySem.W.keepIn X.K (.ref f) = true) (hb : Binds X.K fd ps []) (tk : L2N.Takes X W) (ha : AA X W (e :: es) da) (hn : ps.length = n := by rfl) (hg : Gl X x := by rfl)
    (hdb : (x == ("__debug__" : Str)) = false := by decide) (he : starEach (e :: es) X.env = (false, eval e X.env) :: starEach es X.env := by rfl) (hpl : (backTo pos (starEach es X.env)).any (·.1) = false := by rfl) :
    EE X W (.Call (.Name x p) (e :: es) [] pos) (dCall (arity n F) [] da) := by
  subst hn
  refine PE.imp (L2H.pe_callH (E := WE W) Fk hr hot hg hm hk hb (fun σ => L2N.passAt tk σ) ha hdb he hpl) fun σ H Q h => ?_
  obtain ⟨ι, env, S, s, er, q⟩ := h
  refine ⟨ι, env, S, s, er, (Post.bind (Rel' := Rps X.K) q).mono ?_⟩
  rintro xs H1 ⟨ι1, ds, S1, e1, s1, r1, p1⟩
  rw [List.append_nil] at p1
  unfold arity at p1
  split at p1
  · rename_i hl
    exact ⟨by rw [r1.length]; exact hl, ι1, ds, S1, s1, r1, Post.wish (E := WE W σ) p1 fun _ _ _ h => h⟩
  · exact p1.elim
end
section
variable {X : Cx} {W : WX} {tg : Expr} {pos p : Pos}
structure PIHZ (X : Cx) (W : WX) (tg e : Expr) (d : DenI) : Prop where
  run : L2H.PIH X tg e (rdI X.K X.mg W d)
theorem i_rng1H {a : Expr} {da : DenA} (hg : Gl X "range") (hm : X.mg "range" = none) (ha : AA X W [a] da) (hs : starEach [a] X.env = [(false, eval a X.env)] := by rfl) : PIHZ X W tg (.Call (.Name "range" p) [a] [] pos) (iRng1 da) :=
  ⟨⟨fun pins s σ H R I h => (L2H.pi_range1H hg hm ha hs).run pins s σ H R I (rd_rng1 h)⟩⟩
theorem s_forH {iter : Expr} {body : List Stmt} {src : DenI} {t : Tg} {db : SDen} (hot : L2H.HotC X) (hi : PIHZ X W tg iter src) (hg : GG X tg t) (hb : SSs X W body db) (hp : PassesOwn (model X.prog X.w) X.A X.env X.xe) (hs : ∀ x, foldedSetIterable iter X.env x = pure x := by intro _; rfl) :
    SS X W (.For tg iter body [] pos) (sFor src t db) := PS.imp (L2H.ps_forH hp hot hi.run hg hb hs) fun _ _ _ h => rd_for h
end
end
end Z
end

section
set_option Elab.async false
set_option linter.all false
set_option maxRecDepth 100000
set_option maxHeartbeats 1000000
namespace Z
theorem lcGo_fm {t : Tg} {c : DenT} {elt : Den} {env : Env} {S : Sto} {g : Sto → Prop} (hg : g S) (p : D → Bool) (f : D → D) : ∀ (xs acc : List D), acc.length + xs.length ≤ 1000 →
    (∀ x ∈ xs, ∃ e, t.run x env = some e ∧ c e S = .ok (p x) S ∧ (p x = true → elt e S = .ok (f x) S)) → lcGo g t c elt env xs acc S = .ok (acc ++ (xs.filter p).map f) S
  | [], acc, _, _ => by rw [lcGo, if_pos hg]; simp
  | x :: xs, acc, hl, h => by
    obtain ⟨e, h1, h2, h3⟩ := h x List.mem_cons_self
    rw [lcGo, if_pos hg, h1]
    cases hp : p x with
    | true =>
      rw [hp] at h2
      simp only [h2, h3 hp, if_true]
      rw [if_pos (of_eq_true (sz_lt (by simp only [List.length_cons] at hl; omega))), lcGo_fm hg p f xs (acc ++ [f x]) (by simp only [List.length_append, List.length_cons, List.length_nil] at hl ⊢; omega) fun y hy => h y (List.mem_cons_of_mem _ hy)]
      simp [hp]
    | false =>
      rw [hp] at h2
      simp only [h2]
      rw [if_neg (by simp), lcGo_fm hg p f xs acc (by simp only [List.length_cons] at hl; omega) fun y hy => h y (List.mem_cons_of_mem _ hy)]
      simp [hp]
theorem dLc_fm {cl : Bool} {src : DenI} {vs : List Nat} {t : Tg} {c : DenT} {elt : Den} {env : Env} {S S1 : Sto} {xs : List D} {g : Sto → Prop} (p : D → Bool) (f : D → D) (hs : src env S = .ok (xs, g) S1) (hg : g S1) (hl : xs.length ≤ 1000)
    (h : ∀ x ∈ xs, ∃ e, t.run x (wipeE env vs) = some e ∧ c e S1 = .ok (p x) S1 ∧ (p x = true → elt e S1 = .ok (f x) S1)) : dLc cl src vs t c elt env S = lcEnd cl ((xs.filter p).map f) S1 := by
  unfold dLc
  rw [hs, R.bind_ok, lcGo_fm hg p f xs [] (by simpa using hl) h, R.bind_ok, List.nil_append]
theorem dLc_map {cl : Bool} {src : DenI} {vs : List Nat} {t : Tg} {elt : Den} {env : Env} {S S1 : Sto} {xs : List D} {g : Sto → Prop} (f : D → D) (hs : src env S = .ok (xs, g) S1) (hg : g S1) (hl : xs.length ≤ 1000)
    (h : ∀ x ∈ xs, ∃ e, t.run x (wipeE env vs) = some e ∧ elt e S1 = .ok (f x) S1) : dLc cl src vs t tYesD elt env S = lcEnd cl (xs.map f) S1 := by
  have k := dLc_fm (cl := cl) (vs := vs) (c := tYesD) (elt := elt) (t := t) (fun _ => true) f hs hg hl fun x hx => by
    obtain ⟨e, h1, h2⟩ := h x hx
    exact ⟨e, h1, rfl, fun _ => h2⟩
  rw [k, List.filter_eq_self.mpr fun _ _ => rfl]
/-- a comprehension whose items change the store -/
theorem lcGo_ex {t : Tg} {elt : Den} {env : Env} {g : Sto → Prop} (I : Sto → Prop) (P : D → D → Prop) (hg : ∀ S, I S → g S) : ∀ (xs acc : List D) (S : Sto), I S → acc.length + xs.length ≤ 1000 →
    (∀ x ∈ xs, ∀ S, I S → ∃ e y S', t.run x env = some e ∧ elt e S = .ok y S' ∧ I S' ∧ P x y) → ∃ ys S', lcGo g t tYesD elt env xs acc S = .ok (acc ++ ys) S' ∧ I S' ∧ ys.length = xs.length ∧ ∀ (i : Nat) (x y : D), xs[i]? = some x → ys[i]? = some y → P x y
  | [], acc, S, hI, _, _ => ⟨[], S, by rw [lcGo, if_pos (hg S hI), List.append_nil], hI, rfl, fun i x y h _ => by simp at h⟩
  | x :: xs, acc, S, hI, hl, h => by
    obtain ⟨e, y, S1, h1, h2, h3, h4⟩ := h x List.mem_cons_self S hI
    obtain ⟨ys, S2, k1, k2, k3, k4⟩ := lcGo_ex I P hg xs (acc ++ [y]) S1 h3 (by simp only [List.length_append, List.length_cons, List.length_nil] at hl ⊢; omega) fun z hz => h z (List.mem_cons_of_mem _ hz)
    refine ⟨y :: ys, S2, ?_, k2, by simp [k3], fun i a b ha hb => ?_⟩
    · rw [lcGo, if_pos (hg S hI), h1]
      have e1 : tYesD e S = .ok true S := rfl
      simp only [e1, h2, if_true]
      rw [if_pos (of_eq_true (sz_lt (by simp only [List.length_cons] at hl; omega))), k1]
      simp
    · cases i with
      | zero =>
        rw [List.getElem?_cons_zero] at ha hb
        cases ha; cases hb; exact h4
      | succ i =>
        rw [List.getElem?_cons_succ] at ha hb
        exact k4 i a b ha hb
end Z
end

section
set_option Elab.async false
set_option linter.all false
set_option maxRecDepth 100000
set_option maxHeartbeats 4000000
namespace K21
open PySem PySem.Spec PyProof.Rows L2 Z
def topS (i : Nat) : Stmt := PySem.Challenge.pw_bellrest_k21_restarts_and_tests.main.body.getD i (.Pass ⟨0, 0, 0, 0⟩)
abbrev sInvalidKind : Stmt := inClass (topS 2) 0
abbrev sBeyondCeiling : Stmt := inClass (topS 3) 0
theorem scInvalidKind : FnScope ["self", "value"] ["self", "value"] (defScope sInvalidKind) := ⟨rfl, rfl, rfl, by decide +kernel, rfl, by decide +kernel, by decide +kernel⟩
theorem scBeyondCeiling : FnScope ["self", "clock", "limit"] ["self", "clock", "limit"] (defScope sBeyondCeiling) := ⟨rfl, rfl, rfl, by decide +kernel, rfl, by decide +kernel, by decide +kernel⟩
abbrev splace_of : Stmt := topS 5
abbrev Nplace_of : List Str := ["kind", "clock", "wholes", "order", "number", "group"]
theorem scplace_of : FnScope Nplace_of ["kind", "clock"] (defScope splace_of) := ⟨rfl, rfl, rfl, by decide +kernel, rfl, by decide +kernel, by decide +kernel⟩
abbrev splace_in : Stmt := topS 6
abbrev Nplace_in : List Str := ["place", "span", "low", "high"]
theorem scplace_in : FnScope Nplace_in ["place", "span"] (defScope splace_in) := ⟨rfl, rfl, rfl, by decide +kernel, rfl, by decide +kernel, by decide +kernel⟩
abbrev skind_in : Stmt := topS 7
abbrev Nkind_in : List Str := ["kind", "ceilings", "clock", "span", "edge"]
theorem sckind_in : FnScope Nkind_in ["kind", "ceilings", "clock", "span"] (defScope skind_in) := ⟨rfl, rfl, rfl, by decide +kernel, rfl, by decide +kernel, by decide +kernel⟩
abbrev srestart_kind : Stmt := topS 8
abbrev Nrestart_kind : List Str := ["kind", "clocks", "wholes", "order", "zeroed", "clock", "whole", "others", "group"]
theorem screstart_kind : FnScope Nrestart_kind ["kind", "clocks"] (defScope srestart_kind) := ⟨rfl, rfl, rfl, by decide +kernel, rfl, by decide +kernel, by decide +kernel⟩
abbrev s_law_box : Stmt := topS 10
abbrev N_law_box : List Str := ["script", "cells", "cell", "great", "plain"]
theorem sc_law_box : FnScope N_law_box ["script"] (defScope s_law_box) := ⟨rfl, rfl, rfl, by decide +kernel, rfl, by decide +kernel, by decide +kernel⟩
abbrev s_law_draw : Stmt := topS 11
abbrev N_law_draw : List Str := ["box", "many", "great", "plain", "turn", "digit", "once", "twice"]
theorem sc_law_draw : FnScope N_law_draw ["box", "many"] (defScope s_law_draw) := ⟨rfl, rfl, rfl, by decide +kernel, rfl, by decide +kernel, by decide +kernel⟩
abbrev s_law_is_int : Stmt := topS 12
abbrev N_law_is_int : List Str := ["value"]
theorem sc_law_is_int : FnScope N_law_is_int ["value"] (defScope s_law_is_int) := ⟨rfl, rfl, rfl, by decide +kernel, rfl, by decide +kernel, by decide +kernel⟩
abbrev s_law_same : Stmt := topS 13
abbrev N_law_same : List Str := ["actual", "due", "k"]
theorem sc_law_same : FnScope N_law_same ["actual", "due"] (defScope s_law_same) := ⟨rfl, rfl, rfl, by decide +kernel, rfl, by decide +kernel, by decide +kernel⟩
abbrev s_law_placed : Stmt := topS 14
abbrev N_law_placed : List Str := ["groups", "top", "bottom", "clock", "at", "group", "near"]
theorem sc_law_placed : FnScope N_law_placed ["groups", "top", "bottom", "clock"] (defScope s_law_placed) := ⟨rfl, rfl, rfl, by decide +kernel, rfl, by decide +kernel, by decide +kernel⟩
abbrev s_law_kind : Stmt := topS 15
abbrev N_law_kind : List Str := ["readings", "ceilings", "wholes", "first", "groups", "k", "top", "bottom", "whole", "group"]
theorem sc_law_kind : FnScope N_law_kind ["readings", "ceilings"] (defScope s_law_kind) := ⟨rfl, rfl, rfl, by decide +kernel, rfl, by decide +kernel, by decide +kernel⟩
abbrev s_law_ceilings : Stmt := topS 16
abbrev N_law_ceilings : List Str := ["box", "most", "many", "ceilings", "k"]
theorem sc_law_ceilings : FnScope N_law_ceilings ["box", "most"] (defScope s_law_ceilings) := ⟨rfl, rfl, rfl, by decide +kernel, rfl, by decide +kernel, by decide +kernel⟩
abbrev s_law_span : Stmt := topS 17
abbrev N_law_span : List Str := ["box", "ceiling", "amount", "bottom", "top", "low", "reach", "high"]
theorem sc_law_span : FnScope N_law_span ["box", "ceiling", "amount", "bottom"] (defScope s_law_span) := ⟨rfl, rfl, rfl, by decide +kernel, rfl, by decide +kernel, by decide +kernel⟩
abbrev s_law_in_span : Stmt := topS 18
abbrev N_law_in_span : List Str := ["amount", "bottom", "span", "low", "high"]
theorem sc_law_in_span : FnScope N_law_in_span ["amount", "bottom", "span"] (defScope s_law_in_span) := ⟨rfl, rfl, rfl, by decide +kernel, rfl, by decide +kernel, by decide +kernel⟩
abbrev s_law_too_great : Stmt := topS 19
abbrev N_law_too_great : List Str := ["ceiling", "span"]
theorem sc_law_too_great : FnScope N_law_too_great ["ceiling", "span"] (defScope s_law_too_great) := ⟨rfl, rfl, rfl, by decide +kernel, rfl, by decide +kernel, by decide +kernel⟩
abbrev s_law_refused : Stmt := topS 20
abbrev N_law_refused : List Str := ["kind", "ceilings", "clock", "span", "limit", "trouble"]
theorem sc_law_refused : FnScope N_law_refused ["kind", "ceilings", "clock", "span", "limit"] (defScope s_law_refused) := ⟨rfl, rfl, rfl, by decide +kernel, rfl, by decide +kernel, by decide +kernel⟩
abbrev s_law_tested : Stmt := topS 21
abbrev N_law_tested : List Str := ["box", "kind", "amounts", "bottom", "ceilings", "k", "span", "limit"]
theorem sc_law_tested : FnScope N_law_tested ["box", "kind", "amounts", "bottom", "ceilings"] (defScope s_law_tested) := ⟨rfl, rfl, rfl, by decide +kernel, rfl, by decide +kernel, by decide +kernel⟩
abbrev s_law_chosen : Stmt := topS 22
abbrev N_law_chosen : List Str := ["box", "many", "chosen", "k"]
theorem sc_law_chosen : FnScope N_law_chosen ["box", "many"] (defScope s_law_chosen) := ⟨rfl, rfl, rfl, by decide +kernel, rfl, by decide +kernel, by decide +kernel⟩
abbrev slaw : Stmt := topS 23
abbrev Nlaw : List Str := ["script", "box", "ceilings", "bottom", "amounts", "ceiling", "turn", "kind", "amount", "clocks", "clock", "due", "step"]
theorem sclaw : FnScope Nlaw ["script"] (defScope slaw) := ⟨rfl, rfl, rfl, by decide +kernel, rfl, by decide +kernel, by decide +kernel⟩
/-! ### what the defs compute -/
noncomputable def Fplace_of : FD := fnF 6 (sSeq (sAsg (gT [gN 2, gN 3]) (dVar 0)) (sSeq (sFor (iEn 0 (dVar 3)) (gT [gN 4, gN 5]) (sIf (tB' (bin (fInT false) (dVar 1) (dVar 5))) (sRet (bin fPlus (bin fMul (dC (.int 2)) (bin fIx (dVar 2) (bin fSub (dVar 1) (dC (.int 1))))) (dIf (tB' (bin fGt (dVar 4) (dC (.int 0)))) (dC (.int 1)) (dC (.int 0))))) (sNil))) (sRet (dC .non))))
noncomputable def Fplace_in : FD := fnF 4 (sSeq (sAsg (gT [gN 2, gN 3]) (dVar 1)) (sSeq (sIf (tB' (dIsN (dVar 0))) (sRet (dIsN (dVar 3))) (sNil)) (sSeq (sIf (tB' (bin fLt (dVar 0) (bin fSub (bin fPlus (bin fMul (dC (.int 2)) (bin fIx (dVar 2) (dC (.int 0)))) (dC (.int 1))) (bin fIx (dVar 2) (dC (.int 1)))))) (sRet (dC (.bl false))) (sNil)) (sRet (dOr (dIsN (dVar 3)) (bin fLe (dVar 0) (bin fPlus (bin fSub (bin fMul (dC (.int 2)) (bin fIx (dVar 3) (dC (.int 0)))) (dC (.int 1))) (bin fIx (dVar 3) (dC (.int 1))))))))))
noncomputable def Fkind_in : FD := fnF 5 (sSeq (sFor (iAny (dVar 3)) (gN 4) (sIf (tAnd' (tB' (dNotN (dVar 4))) (tB' (bin fGt (bin fIx (dVar 4) (dC (.int 0))) (bin fIx (dVar 1) (bin fSub (dVar 2) (dC (.int 1))))))) (sRaise "BeyondCeiling" ["clock", "limit"] (aCons (dVar 2) (aCons (bin fIx (dVar 4) (dC (.int 0))) (aNil)))) (sNil))) (sRet (dCall (arity 2 Fplace_in) [] (aCons (dCall (arity 2 Fplace_of) [] (aCons (dVar 0) (aCons (dVar 2) (aNil)))) (aCons (dVar 3) (aNil))))))
noncomputable def Frestart_kind : FD := fnF 9 (sSeq (sAsg (gT [gN 2, gN 3]) (dVar 0)) (sSeq (sSet 4 (dCB fTuple (aCons (dLc false (iEn 1 (dVar 2)) [5, 6] (gT [gN 5, gN 6]) (tYesD) (dIf (tB' (bin (fInT false) (dVar 5) (dVar 1))) (dC (.int 0)) (dVar 6))) (aNil)))) (sSeq (sSet 7 (dLc false (iAny (dSl false (dVar 3) (oSome (dC (.int 1))) (oNone))) [8] (gN 8) (tYesD) (dCB fTuple (aCons (dLc false (iAny (dVar 8)) [5] (gN 5) (tB' (bin (fInT true) (dVar 5) (dVar 1))) (dVar 5)) (aNil))))) (sRet (dTup (aCons (dVar 4) (aCons (dTup (aCons (dCB fTuple (aCons (dSoSet (bin fPlus (bin fIx (dVar 3) (dC (.int 0))) (dVar 1))) (aNil))) (aStar (dLc false (iAny (dVar 7)) [8] (gN 8) (tTr (dVar 8)) (dVar 8)) (aNil)))) (aNil))))))))
noncomputable def F_law_box : FD := fnF 5 (sSeq (sSet 1 (dLc false (iAny (dSl false (dVar 0) (oNone) (oSome (dC (.int 63))))) [2] (gN 2) (tYesD) (dCB fAbs (aCons (dVar 2) (aNil))))) (sSeq (sSet 3 (dLc true (iAny (dVar 1)) [2] (gN 2) (tB' (bin fGe (dVar 2) (bin fPow (dC (.int 10)) (dC (.int 18))))) (dVar 2))) (sSeq (sSet 4 (dLc false (iAny (dVar 1)) [2] (gN 2) (tB' (bin fLt (dVar 2) (bin fPow (dC (.int 10)) (dC (.int 18))))) (dVar 2))) (sSeq (sIf (tNot' (tTr (dVar 4))) (sSet 4 (bin fPlus (dLc false (iAny (dVar 3)) [2] (gN 2) (tYesD) (bin fMod (dCB fIntT (aCons (dVar 2) (aNil))) (dC (.int 1000003)))) (dLst false (aCons (dC (.int 7)) (aNil))))) (sNil)) (sRet (dLst true (aCons (dVar 3) (aCons (dVar 4) (aCons (dC (.int 0)) (aNil))))))))))
noncomputable def F_law_draw : FD := fnF 8 (sSeq (sSet 2 (bin fIx (dVar 0) (dC (.int 0)))) (sSeq (sSet 3 (bin fIx (dVar 0) (dC (.int 1)))) (sSeq (sSet 4 (bin fPlus (bin fIx (dVar 0) (dC (.int 2))) (dC (.int 1)))) (sSeq (sPut (dVar 0) (dC (.int 2)) (dVar 4)) (sSeq (sIf (tTr (dVar 2)) (sSeq (sSet 5 (bin fMod (dCB fIntT (aCons (bin fIx (dVar 2) (dC (.int 0))) (aNil))) (dVar 1))) (sSeq (sPut (dVar 2) (dC (.int 0)) (bin fDiv (bin fIx (dVar 2) (dC (.int 0))) (dVar 1))) (sSeq (sIf (tB' (bin (fEq false) (bin fIx (dVar 2) (dC (.int 0))) (dC (.int 0)))) (sDrop (dBM .list fPopAt (dVar 2) (aCons (dC (.int 0)) (aNil)))) (sNil)) (sRet (dVar 5))))) (sNil)) (sSeq (sSet 6 (bin fMod (dCB fIntT (aCons (bin fPlus (bin fPlus (bin fMul (bin fIx (dVar 3) (bin fMod (dCB fIntT (aCons (dVar 4) (aNil))) (dCB fLen (aCons (dVar 3) (aNil))))) (dC (.int 48271))) (bin fMul (dVar 4) (dC (.int 69621)))) (dC (.int 101))) (aNil))) (dC (.int 2147483647)))) (sSeq (sSet 7 (bin fMod (dCB fIntT (aCons (bin fPlus (bin fMul (dVar 6) (bin fPlus (bin fMod (dCB fIntT (aCons (dVar 6) (aNil))) (dC (.int 65537))) (dC (.int 3)))) (bin fMul (dVar 4) (dC (.int 40692)))) (aNil))) (dC (.int 2147483399)))) (sRet (bin fMod (dCB fIntT (aCons (bin fDiv (dVar 7) (dC (.int 61))) (aNil))) (dVar 1))))))))))
noncomputable def F_law_is_int : FD := fnF 1 (sRet (dAnd (dIsi .int (dVar 0)) (dNot (dIsi .bool (dVar 0)))))
noncomputable def F_law_same : Nat → FD
  | 0 => fun _ _ => .bad
  | n + 1 => fnF 3 (sSeq (sIf (tB' (dIsi .tup (dVar 1))) (sSeq (sIf (tOr' (tNot' (tB' (dIsi .tup (dVar 0)))) (tB' (bin (fEq true) (dCB fLen (aCons (dVar 0) (aNil))) (dCB fLen (aCons (dVar 1) (aNil)))))) (sRet (dC (.bl false))) (sNil)) (sSeq (sFor (iRng1 (aCons (dCB fLen (aCons (dVar 1) (aNil))) (aNil))) (gN 2) (sIf (tNot' (tB' (dCall (arity 2 (F_law_same n)) [] (aCons (bin fIx (dVar 0) (dVar 2)) (aCons (bin fIx (dVar 1) (dVar 2)) (aNil)))))) (sRet (dC (.bl false))) (sNil))) (sRet (dC (.bl true))))) (sNil)) (sSeq (sIf (tB' (dIsi .str (dVar 1))) (sRet (dAnd (dIsi .str (dVar 0)) (bin (fEq false) (dVar 0) (dVar 1)))) (sNil)) (sSeq (sIf (tB' (dIsN (dVar 1))) (sRet (dIsN (dVar 0))) (sNil)) (sRet (dAnd (dCall (arity 1 F_law_is_int) [] (aCons (dVar 0) (aNil))) (bin (fEq false) (dVar 0) (dVar 1)))))))
noncomputable def F_law_placed : FD := fnF 7 (sSeq (sSet 4 (dC (.int 0))) (sSeq (sFor (iAny (dVar 0)) (gN 5) (sIf (tB' (bin fLt (bin fMul (bin fIx (dVar 5) (dC (.int 0))) (dVar 2)) (bin fMul (dVar 1) (bin fIx (dVar 5) (dC (.int 1)))))) (sSet 4 (bin fPlus (dVar 4) (dC (.int 1)))) (sNil))) (sSeq (sIf (tB' (bin fLt (dVar 4) (dCB fLen (aCons (dVar 0) (aNil))))) (sSeq (sSet 6 (bin fIx (dVar 0) (dVar 4))) (sIf (tB' (bin (fEq false) (bin fMul (bin fIx (dVar 6) (dC (.int 0))) (dVar 2)) (bin fMul (dVar 1) (bin fIx (dVar 6) (dC (.int 1)))))) (sSeq (sDrop (dBM .list fApp (bin fIx (dVar 6) (dC (.int 2))) (aCons (dVar 3) (aNil)))) (sRetN)) (sNil))) (sNil)) (sDrop (dBM .list fIns (dVar 0) (aCons (dVar 4) (aCons (dLst false (aCons (dVar 1) (aCons (dVar 2) (aCons (dLst true (aCons (dVar 3) (aNil))) (aNil))))) (aNil))))))))
noncomputable def F_law_kind : FD := fnF 10 (sSeq (sSet 2 (dLst true (aNil))) (sSeq (sSet 3 (dLst true (aNil))) (sSeq (sSet 4 (dLst true (aNil))) (sSeq (sFor (iRng1 (aCons (dCB fLen (aCons (dVar 1) (aNil))) (aNil))) (gN 5) (sSeq (sSet 6 (bin fIx (bin fIx (dVar 0) (dVar 5)) (dC (.int 0)))) (sSeq (sSet 7 (bin fIx (bin fIx (dVar 0) (dVar 5)) (dC (.int 1)))) (sSeq (sSet 8 (bin fDiv (dVar 6) (dVar 7))) (sIf (tB' (bin fGt (dVar 6) (bin fMul (bin fIx (dVar 1) (dVar 5)) (dVar 7)))) (sDrop (dBM .list fApp (dVar 2) (aCons (bin fPlus (bin fIx (dVar 1) (dVar 5)) (dC (.int 1))) (aNil)))) (sSeq (sDrop (dBM .list fApp (dVar 2) (aCons (dVar 8) (aNil)))) (sIf (tB' (bin (fEq false) (bin fMul (dVar 8) (dVar 7)) (dVar 6))) (sDrop (dBM .list fApp (dVar 3) (aCons (bin fPlus (dVar 5) (dC (.int 1))) (aNil)))) (sDrop (dCall (arity 4 F_law_placed) [] (aCons (dVar 4) (aCons (bin fSub (dVar 6) (bin fMul (dVar 8) (dVar 7))) (aCons (dVar 7) (aCons (bin fPlus (dVar 5) (dC (.int 1))) (aNil)))))))))))))) (sRet (dTup (aCons (dCB fTuple (aCons (dVar 2) (aNil))) (aCons (dCB fTuple (aCons (bin fPlus (dLst false (aCons (dCB fTuple (aCons (dVar 3) (aNil))) (aNil))) (dLc false (iAny (dVar 4)) [9] (gN 9) (tYesD) (dCB fTuple (aCons (bin fIx (dVar 9) (dC (.int 2))) (aNil))))) (aNil))) (aNil)))))))))
noncomputable def F_law_ceilings : FD := fnF 5 (sSeq (sSet 2 (bin fPlus (dC (.int 1)) (dCall (arity 2 F_law_draw) [] (aCons (dVar 0) (aCons (dC (.int 6)) (aNil)))))) (sSeq (sSet 3 (dLc true (iRng1 (aCons (dVar 2) (aNil))) [4] (gN 4) (tYesD) (dCall (arity 2 F_law_draw) [] (aCons (dVar 0) (aCons (dC (.int 3)) (aNil)))))) (sSeq (sIf (tB' (bin (fEq false) (dCall (arity 2 F_law_draw) [] (aCons (dVar 0) (aCons (dC (.int 4)) (aNil)))) (dC (.int 0)))) (sPut (dVar 3) (dCall (arity 2 F_law_draw) [] (aCons (dVar 0) (aCons (dVar 2) (aNil)))) (dCall (arity 2 F_law_draw) [] (aCons (dVar 0) (aCons (bin fPlus (dVar 1) (dC (.int 1))) (aNil))))) (sNil)) (sRet (dCB fTuple (aCons (dVar 3) (aNil)))))))
noncomputable def F_law_span : FD := fnF 8 (sSeq (sSet 4 (bin fPlus (dVar 1) (dC (.int 1)))) (sSeq (sIf (tB' (bin (fEq false) (dCall (arity 2 F_law_draw) [] (aCons (dVar 0) (aCons (dC (.int 4)) (aNil)))) (dC (.int 0)))) (sSet 4 (bin fPlus (dVar 1) (dC (.int 3)))) (sNil)) (sSeq (sSet 5 (dCall (arity 2 F_law_draw) [] (aCons (dVar 0) (aCons (dVar 4) (aNil))))) (sSeq (sIf (tB' (bin (fEq false) (dCall (arity 2 F_law_draw) [] (aCons (dVar 0) (aCons (dC (.int 2)) (aNil)))) (dC (.int 0)))) (sSet 5 (dCB fMin2 (aCons (bin fDiv (dVar 2) (dVar 3)) (aCons (bin fSub (dVar 4) (dC (.int 1))) (aNil))))) (sNil)) (sSeq (sSet 6 (dCall (arity 2 F_law_draw) [] (aCons (dVar 0) (aCons (dC (.int 2)) (aNil))))) (sSeq (sIf (tB' (bin (fEq false) (dCall (arity 2 F_law_draw) [] (aCons (dVar 0) (aCons (dC (.int 4)) (aNil)))) (dC (.int 0)))) (sRet (dTup (aCons (dTup (aCons (dVar 5) (aCons (dVar 6) (aNil)))) (aCons (dC .non) (aNil))))) (sNil)) (sSeq (sSet 7 (bin fPlus (dVar 5) (dCall (arity 2 F_law_draw) [] (aCons (dVar 0) (aCons (bin fSub (dVar 4) (dVar 5)) (aNil)))))) (sSeq (sIf (tAnd' (tB' (bin fGt (dVar 7) (dVar 5))) (tB' (bin (fEq false) (dCall (arity 2 F_law_draw) [] (aCons (dVar 0) (aCons (dC (.int 2)) (aNil)))) (dC (.int 0))))) (sSet 7 (bin fPlus (dVar 5) (dC (.int 1)))) (sNil)) (sSeq (sIf (tB' (bin (fEq false) (dVar 7) (dVar 5))) (sRet (dTup (aCons (dTup (aCons (dVar 5) (aCons (dC (.int 1)) (aNil)))) (aCons (dTup (aCons (dVar 5) (aCons (dC (.int 1)) (aNil)))) (aNil))))) (sNil)) (sRet (dTup (aCons (dTup (aCons (dVar 5) (aCons (dVar 6) (aNil)))) (aCons (dTup (aCons (dVar 7) (aCons (dCall (arity 2 F_law_draw) [] (aCons (dVar 0) (aCons (dC (.int 2)) (aNil)))) (aNil)))) (aNil))))))))))))))
noncomputable def F_law_in_span : FD := fnF 5 (sSeq (sSet 3 (bin fMul (bin fIx (bin fIx (dVar 2) (dC (.int 0))) (dC (.int 0))) (dVar 1))) (sSeq (sIf (tOr' (tB' (bin fLt (dVar 0) (dVar 3))) (tAnd' (tB' (bin (fEq false) (dVar 0) (dVar 3))) (tB' (bin (fEq false) (bin fIx (bin fIx (dVar 2) (dC (.int 0))) (dC (.int 1))) (dC (.int 0)))))) (sRet (dC (.bl false))) (sNil)) (sSeq (sIf (tB' (dIsN (bin fIx (dVar 2) (dC (.int 1))))) (sRet (dC (.bl true))) (sNil)) (sSeq (sSet 4 (bin fMul (bin fIx (bin fIx (dVar 2) (dC (.int 1))) (dC (.int 0))) (dVar 1))) (sRet (dOr (bin fLt (dVar 0) (dVar 4)) (dAnd (bin (fEq false) (dVar 0) (dVar 4)) (bin (fEq false) (bin fIx (bin fIx (dVar 2) (dC (.int 1))) (dC (.int 1))) (dC (.int 1))))))))))
noncomputable def F_law_too_great : FD := fnF 2 (sSeq (sIf (tB' (bin fGt (bin fIx (bin fIx (dVar 1) (dC (.int 0))) (dC (.int 0))) (dVar 0))) (sRet (bin fIx (bin fIx (dVar 1) (dC (.int 0))) (dC (.int 0)))) (sNil)) (sSeq (sIf (tAnd' (tB' (dNotN (bin fIx (dVar 1) (dC (.int 1))))) (tB' (bin fGt (bin fIx (bin fIx (dVar 1) (dC (.int 1))) (dC (.int 0))) (dVar 0)))) (sRet (bin fIx (bin fIx (dVar 1) (dC (.int 1))) (dC (.int 0)))) (sNil)) (sRet (dC .non))))
noncomputable def F_law_refused : FD := fnF 6 (sSeq (sTry "BeyondCeiling" 5 (sDrop (dCall (arity 4 Fkind_in) [] (aCons (dVar 0) (aCons (dVar 1) (aCons (dVar 2) (aCons (dVar 3) (aNil))))))) (fun a dd => sSeq (sIf (tOr' (tNot' (tB' (dXis a dd true (dVar 5)))) (tNot' (tB' (dXis a dd true (dVar 5))))) (sRet (dC (.bl false))) (sNil)) (sSeq (sIf (tB' (dXis a dd false (dVar 5))) (sRet (dC (.bl false))) (sNil)) (sRet (dCall (arity 2 (F_law_same 6)) [] (aCons (dTup (aCons (dXf a dd (PySem.Str.ofString "clock") (dVar 5)) (aCons (dXf a dd (PySem.Str.ofString "limit") (dVar 5)) (aNil)))) (aCons (dTup (aCons (dVar 2) (aCons (dVar 4) (aNil)))) (aNil)))))))) (sRet (dC (.bl false))))
noncomputable def F_law_tested : FD := fnF 8 (sSeq (sFor (iRng1 (aCons (dCB fLen (aCons (dVar 4) (aNil))) (aNil))) (gN 5) (sSeq (sSet 6 (dCall (arity 4 F_law_span) [] (aCons (dVar 0) (aCons (bin fIx (dVar 4) (dVar 5)) (aCons (bin fIx (dVar 2) (dVar 5)) (aCons (dVar 3) (aNil))))))) (sSeq (sSet 7 (dCall (arity 2 F_law_too_great) [] (aCons (bin fIx (dVar 4) (dVar 5)) (aCons (dVar 6) (aNil))))) (sIf (tB' (dNotN (dVar 7))) (sIf (tNot' (tB' (dCall (arity 5 F_law_refused) [] (aCons (dVar 1) (aCons (dVar 4) (aCons (bin fPlus (dVar 5) (dC (.int 1))) (aCons (dVar 6) (aCons (dVar 7) (aNil))))))))) (sRet (dC (.bl false))) (sNil)) (sIf (tB' (dCall (arity 3 F_law_in_span) [] (aCons (bin fIx (dVar 2) (dVar 5)) (aCons (dVar 3) (aCons (dVar 6) (aNil)))))) (sIf (tB' (dNotB true (dCall (arity 4 Fkind_in) [] (aCons (dVar 1) (aCons (dVar 4) (aCons (bin fPlus (dVar 5) (dC (.int 1))) (aCons (dVar 6) (aNil)))))))) (sRet (dC (.bl false))) (sNil)) (sIf (tB' (dNotB false (dCall (arity 4 Fkind_in) [] (aCons (dVar 1) (aCons (dVar 4) (aCons (bin fPlus (dVar 5) (dC (.int 1))) (aCons (dVar 6) (aNil)))))))) (sRet (dC (.bl false))) (sNil))))))) (sRet (dC (.bl true))))
noncomputable def F_law_chosen : FD := fnF 4 (sSeq (sSet 2 (dLst true (aNil))) (sSeq (sFor (iRng1 (aCons (dVar 1) (aNil))) (gN 3) (sIf (tB' (bin (fEq false) (dCall (arity 2 F_law_draw) [] (aCons (dVar 0) (aCons (dC (.int 2)) (aNil)))) (dC (.int 0)))) (sDrop (dBM .list fIns (dVar 2) (aCons (dCall (arity 2 F_law_draw) [] (aCons (dVar 0) (aCons (bin fPlus (dCB fLen (aCons (dVar 2) (aNil))) (dC (.int 1))) (aNil)))) (aCons (bin fPlus (dVar 3) (dC (.int 1))) (aNil))))) (sNil))) (sRet (dCB fTuple (aCons (dVar 2) (aNil))))))
noncomputable def Flaw : FD := fnF 13 (sSeq (sSet 1 (dCall (arity 1 F_law_box) [] (aCons (dVar 0) (aNil)))) (sSeq (sSet 2 (dCall (arity 2 F_law_ceilings) [] (aCons (dVar 1) (aCons (dC (.int 90)) (aNil))))) (sSeq (sSet 3 (bin fPlus (dC (.int 1)) (dCall (arity 2 F_law_draw) [] (aCons (dVar 1) (aCons (dC (.int 12)) (aNil)))))) (sSeq (sSet 4 (dLc true (iAny (dVar 2)) [5] (gN 5) (tYesD) (dCall (arity 2 F_law_draw) [] (aCons (dVar 1) (aCons (bin fMul (bin fPlus (dVar 5) (dC (.int 2))) (dVar 3)) (aNil)))))) (sSeq (sFor (iRng1 (aCons (bin fPlus (dC (.int 1)) (dCall (arity 2 F_law_draw) [] (aCons (dVar 1) (aCons (dC (.int 4)) (aNil))))) (aNil))) (gN 6) (sSeq (sSet 7 (dCall (arity 2 F_law_kind) [] (aCons (dLc false (iAny (dVar 4)) [8] (gN 8) (tYesD) (dTup (aCons (dVar 8) (aCons (dVar 3) (aNil))))) (aCons (dVar 2) (aNil))))) (sSeq (sIf (tNot' (tB' (dCall (arity 5 F_law_tested) [] (aCons (dVar 1) (aCons (dVar 7) (aCons (dVar 4) (aCons (dVar 3) (aCons (dVar 2) (aNil))))))))) (sRet (dC (.bl false))) (sNil)) (sSeq (sSet 9 (dCall (arity 2 F_law_chosen) [] (aCons (dVar 1) (aCons (dCB fLen (aCons (dVar 2) (aNil))) (aNil))))) (sSeq (sFor (iAny (dVar 9)) (gN 10) (sPut (dVar 4) (bin fSub (dVar 10) (dC (.int 1))) (dC (.int 0)))) (sSeq (sSet 11 (dCall (arity 2 F_law_kind) [] (aCons (dLc false (iAny (dVar 4)) [8] (gN 8) (tYesD) (dTup (aCons (dVar 8) (aCons (dVar 3) (aNil))))) (aCons (dVar 2) (aNil))))) (sSeq (sIf (tNot' (tB' (dCall (arity 2 (F_law_same 6)) [] (aCons (dCall (arity 2 Frestart_kind) [] (aCons (dVar 7) (aCons (dVar 9) (aNil)))) (aCons (dVar 11) (aNil)))))) (sRet (dC (.bl false))) (sNil)) (sSeq (sIf (tNot' (tB' (dCall (arity 2 (F_law_same 6)) [] (aCons (dCall (arity 2 Frestart_kind) [] (aCons (dVar 7) (aCons (bin fPlus (dVar 9) (dSl false (dVar 9) (oNone) (oSome (dC (.int 1))))) (aNil)))) (aCons (dVar 11) (aNil)))))) (sRet (dC (.bl false))) (sNil)) (sSeq (sIf (tNot' (tB' (dCall (arity 5 F_law_tested) [] (aCons (dVar 1) (aCons (dVar 11) (aCons (dVar 4) (aCons (dVar 3) (aCons (dVar 2) (aNil))))))))) (sRet (dC (.bl false))) (sNil)) (sSeq (sSet 12 (dCall (arity 2 F_law_draw) [] (aCons (dVar 1) (aCons (bin fPlus (bin fMul (dC (.int 3)) (dVar 3)) (dC (.int 1))) (aNil))))) (sSet 4 (dLc true (iAny (dVar 4)) [8] (gN 8) (tYesD) (bin fPlus (dVar 8) (dVar 12)))))))))))))) (sRet (dC (.bl true))))))))
end K21
end

section
set_option Elab.async false
set_option linter.all false
set_option maxRecDepth 100000
set_option maxHeartbeats 1000000
open Z
local macro_rules | `(tactic| walk_at "z") => `(tactic| simp [fnF_eq, sSeq, sSet, sRet, sIf, sDrop, sNil, sAsg, sPar, sPut, F.then_nx, F.then_rt, F.then_bk, F.then_ct, F.then_ex, F.then_bad, F.then_ite, R.lift_ok, R.lift_ex, R.lift_bad, R.lift_ite, R.bind_ok, R.bind_ex, R.bind_bad, R.bind_ite, F.fin_nx, F.fin_rt, F.fin_ex, F.fin_bad, F.fin_ite, dVar, dC, bin, un, dAnd, dOr, dNot, tB', tAnd', tOr', tNot', dIf, asB_bl, aNil, aCons, dTup, mkT, dLst, mkL, fIx, seqOf, lstOf, L2.atI, L2.ixN, fAdd, fPlus, dSl, oSome, oNone, asI, fSl, fInT, fStr, fIntT, fFmt, dFmt, dJs, fPart, fStarts, fFind, fIsdig, fIsasc, fMulS, fSub, fMul, fLt, fGt, fLe, fGe, fEq, fDiv, fMod, fNeg, fPow, arity, dCall, dCallY, dCallK, noEx, dCB, fGcd, fLen, fMax2, fMin2, fInt, gN, gT, gAll, dIsi, fIsi, isTy, refOk, dIsN, dNotN, dIsB, dNotB, isNon, isBl, sz_lt, sz_le, sRaise, sTry, collapse_const, endX, dXf, dXis, dBM, dBM0, fPop, fApp, fRevM, fIns, fPopAt, tTr, fTr, aStar, dSoSet, sRetN, fTuple, fAbs, tyD, *])
local macro_rules | `(tactic| walk_at "y") => `(tactic| simp [fnF_eq, sSeq, sSet, sRet, sIf, sDrop, sNil, sAsg, sPar, sPut, F.then_nx, F.then_rt, F.then_bk, F.then_ct, F.then_ex, F.then_bad, F.then_ite, R.lift_ok, R.lift_ex, R.lift_bad, R.lift_ite, R.bind_ok, R.bind_ex, R.bind_bad, R.bind_ite, F.fin_nx, F.fin_rt, F.fin_ex, F.fin_bad, F.fin_ite, dVar, dC, bin, un, dAnd, dOr, dNot, tB', tAnd', tOr', tNot', dIf, asB_bl, aNil, aCons, dTup, mkT, dLst, mkL, fIx, seqOf, lstOf, L2.atI, L2.ixN, fAdd, fPlus, dSl, oSome, oNone, asI, fSl, fInT, fStr, fIntT, fFmt, dFmt, dJs, fPart, fStarts, fFind, fIsdig, fIsasc, fMulS, fSub, fMul, fLt, fGt, fLe, fGe, fEq, fDiv, fMod, fNeg, fPow, arity, dCall, dCallY, dCallK, noEx, dCB, fGcd, fLen, fMax2, fMin2, fInt, sFor, iRng1, fRng1, iSeq, asSeq, iAny, asAny, dIsi, fIsi, isTy, refOk, dIsN, dNotN, dIsB, dNotB, isNon, isBl, sz_lt, sz_le, sRaise, sTry, collapse_const, endX, dXf, dXis, dBM, dBM0, fPop, fApp, fRevM, fIns, fPopAt, tTr, fTr, aStar, dSoSet, sRetN, fTuple, fAbs, tyD, *])
namespace K21
def Bx (gs ps : List Int) (t : Int) (rest : Sto) : Sto := .lst (gs.map D.int) :: .lst [.ref 0, .lst (ps.map D.int), .int t] :: rest
def IsBox (S rest : Sto) : Prop := ∃ gs ps t, S = Bx gs ps t rest ∧ 0 < ps.length ∧ ps.length ≤ 100
theorem mulc {j : Int} (h : -(2 ^ 64) < j ∧ j < 2 ^ 64) (i : Int) : MulOk i j := .inl (.inr h)
theorem draw_eq {n : Int} {S rest : Sto} (hS : IsBox S rest) (h0 : 0 < n) (h1 : n < 2 ^ 60) : ∃ d S', F_law_draw [.ref 1, .int n] S = .ok (.int d) S' ∧ IsBox S' rest ∧ 0 ≤ d ∧ d < n := by
  obtain ⟨gs, ps, t, rfl, p0, p1⟩ := hS
  have dn : DivOk n := sm.div (a := 60) (by unfold sm; omega) h0 (by decide)
  have hm : ∀ y : Int, 0 ≤ y % n ∧ y % n < n := fun y => ⟨Int.emod_nonneg _ (by omega), Int.emod_lt_of_pos _ h0⟩
  cases gs with
  | nil =>
    have dl : DivOk (ps.length : Int) := sm.div (a := 60) (by unfold sm; omega) (by omega) (by decide)
    have i0 : 0 ≤ (t + 1) % (ps.length : Int) := Int.emod_nonneg _ (by omega)
    have i1 : (t + 1) % (ps.length : Int) < (ps.length : Int) := Int.emod_lt_of_pos _ (by omega)
    have i2 : ((t + 1) % (ps.length : Int)).toNat < ps.length := by omega
    have m1 := mulc (j := 48271) (by decide)
    have m2 := mulc (j := 69621) (by decide)
    have m4 := mulc (j := 40692) (by decide)
    have d1 : DivOk 2147483647 := sm.div (a := 60) (by unfold sm; decide) (by decide) (by decide)
    have d2 : DivOk 2147483399 := sm.div (a := 60) (by unfold sm; decide) (by decide) (by decide)
    have d3 : DivOk 65537 := sm.div (a := 60) (by unfold sm; decide) (by decide) (by decide)
    have d4 : DivOk 61 := sm.div (a := 60) (by unfold sm; decide) (by decide) (by decide)
    have m3 : ∀ o : Int, MulOk o (o % 65537 + 3) := fun o => mulc (by have := Int.emod_nonneg o (by decide : (65537 : Int) ≠ 0); have := Int.emod_lt_of_pos o (by decide : (0 : Int) < 65537); omega) o
    refine ⟨(((ps[((t + 1) % (ps.length : Int)).toNat] * 48271 + (t + 1) * 69621 + 101) % 2147483647) * (((ps[((t + 1) % (ps.length : Int)).toNat] * 48271 + (t + 1) * 69621 + 101) % 2147483647) % 65537 + 3) + (t + 1) * 40692) % 2147483399 / 61 % n, Bx [] ps (t + 1) rest, ?_, ⟨_, _, _, rfl, p0, p1⟩, (hm _).1, (hm _).2⟩
    have fl : Fit ps.length := of_eq_true (sz_le (by omega))
    clear p1 hm h1
    unfold F_law_draw Bx
    walk_at "z"
  | cons z gs =>
    have i0 : (0 : Int) < (gs.length : Int) + 1 := by omega
    by_cases hz : z / n = 0
    · refine ⟨z % n, Bx gs ps (t + 1) rest, ?_, ⟨_, _, _, rfl, p0, p1⟩, (hm _).1, (hm _).2⟩
      clear p1 hm h1
      unfold F_law_draw Bx
      walk_at "z"
    · refine ⟨z % n, Bx (z / n :: gs) ps (t + 1) rest, ?_, ⟨_, _, _, rfl, p0, p1⟩, (hm _).1, (hm _).2⟩
      clear p1 hm h1
      unfold F_law_draw Bx
      walk_at "z"
end K21
end

section
set_option Elab.async false
set_option linter.all false
set_option maxRecDepth 100000
set_option maxHeartbeats 1000000
open Z
local macro_rules | `(tactic| walk_at "z") => `(tactic| simp [fnF_eq, sSeq, sSet, sRet, sIf, sDrop, sNil, sAsg, sPar, sPut, F.then_nx, F.then_rt, F.then_bk, F.then_ct, F.then_ex, F.then_bad, F.then_ite, R.lift_ok, R.lift_ex, R.lift_bad, R.lift_ite, R.bind_ok, R.bind_ex, R.bind_bad, R.bind_ite, F.fin_nx, F.fin_rt, F.fin_ex, F.fin_bad, F.fin_ite, dVar, dC, bin, un, dAnd, dOr, dNot, tB', tAnd', tOr', tNot', dIf, asB_bl, aNil, aCons, dTup, mkT, dLst, mkL, fIx, seqOf, lstOf, L2.atI, L2.ixN, fAdd, fPlus, dSl, oSome, oNone, asI, fSl, fInT, fStr, fIntT, fFmt, dFmt, dJs, fPart, fStarts, fFind, fIsdig, fIsasc, fMulS, fSub, fMul, fLt, fGt, fLe, fGe, fEq, fDiv, fMod, fNeg, fPow, arity, dCall, dCallY, dCallK, noEx, dCB, fGcd, fLen, fMax2, fMin2, fInt, gN, gT, gAll, dIsi, fIsi, isTy, refOk, dIsN, dNotN, dIsB, dNotB, isNon, isBl, sz_lt, sz_le, sRaise, sTry, collapse_const, endX, dXf, dXis, dBM, dBM0, fPop, fApp, fRevM, fIns, fPopAt, tTr, fTr, aStar, dSoSet, sRetN, fTuple, fAbs, tyD, *])
local macro_rules | `(tactic| walk_at "y") => `(tactic| simp [fnF_eq, sSeq, sSet, sRet, sIf, sDrop, sNil, sAsg, sPar, sPut, F.then_nx, F.then_rt, F.then_bk, F.then_ct, F.then_ex, F.then_bad, F.then_ite, R.lift_ok, R.lift_ex, R.lift_bad, R.lift_ite, R.bind_ok, R.bind_ex, R.bind_bad, R.bind_ite, F.fin_nx, F.fin_rt, F.fin_ex, F.fin_bad, F.fin_ite, dVar, dC, bin, un, dAnd, dOr, dNot, tB', tAnd', tOr', tNot', dIf, asB_bl, aNil, aCons, dTup, mkT, dLst, mkL, fIx, seqOf, lstOf, L2.atI, L2.ixN, fAdd, fPlus, dSl, oSome, oNone, asI, fSl, fInT, fStr, fIntT, fFmt, dFmt, dJs, fPart, fStarts, fFind, fIsdig, fIsasc, fMulS, fSub, fMul, fLt, fGt, fLe, fGe, fEq, fDiv, fMod, fNeg, fPow, arity, dCall, dCallY, dCallK, noEx, dCB, fGcd, fLen, fMax2, fMin2, fInt, sFor, iRng1, fRng1, iSeq, asSeq, iAny, asAny, dIsi, fIsi, isTy, refOk, dIsN, dNotN, dIsB, dNotB, isNon, isBl, sz_lt, sz_le, sRaise, sTry, collapse_const, endX, dXf, dXis, dBM, dBM0, fPop, fApp, fRevM, fIns, fPopAt, tTr, fTr, aStar, dSoSet, sRetN, fTuple, fAbs, tyD, *])
namespace K21
structure Grp (fr : Int → Int) (P : Int → Prop) (gs : List (Int × List Int)) : Prop where
  asc : (gs.map (·.1)).Pairwise (· < ·)
  mem : ∀ e ∈ gs, e.2 ≠ [] ∧ e.2.Pairwise (· < ·) ∧ ∀ k, k ∈ e.2 ↔ P k ∧ fr k = e.1
  all : ∀ k, P k → ∃ e ∈ gs, fr k = e.1
theorem zip_eq : ∀ {gs gs' : List (Int × List Int)}, gs.map (·.1) = gs'.map (·.1) → (∀ e ∈ gs, ∀ e' ∈ gs', e.1 = e'.1 → e.2 = e'.2) → gs = gs'
  | [], [], _, _ => rfl
  | [], _ :: _, h, _ => by cases h
  | _ :: _, [], h, _ => by cases h
  | e :: gs, e' :: gs', h, hh => by
    simp only [List.map_cons, List.cons.injEq] at h
    have h2 := hh e (by simp) e' (by simp) h.1
    have : e = e' := Prod.ext h.1 h2
    rw [this, zip_eq h.2 fun a ha b hb => hh a (List.mem_cons_of_mem _ ha) b (List.mem_cons_of_mem _ hb)]
theorem Grp.sub {fr fr' : Int → Int} {P P' : Int → Prop} {gs gs' : List (Int × List Int)} (G : Grp fr P gs) (G' : Grp fr' P' gs') (hP : ∀ k, P k ↔ P' k) (hf : ∀ k, P k → fr k = fr' k) {t : Int} (h : t ∈ gs.map (·.1)) : t ∈ gs'.map (·.1) := by
  obtain ⟨e, he, rfl⟩ := List.mem_map.mp h
  obtain ⟨h1, h2, h3⟩ := G.mem e he
  obtain ⟨k, hk⟩ := List.exists_mem_of_ne_nil _ h1
  obtain ⟨pk, fk⟩ := (h3 k).mp hk
  obtain ⟨e', he', fe⟩ := G'.all k ((hP k).mp pk)
  exact List.mem_map.mpr ⟨e', he', by rw [← fe, ← hf k pk, fk]⟩
theorem Grp.uniq {fr fr' : Int → Int} {P P' : Int → Prop} {gs gs' : List (Int × List Int)} (G : Grp fr P gs) (G' : Grp fr' P' gs') (hP : ∀ k, P k ↔ P' k) (hf : ∀ k, P k → fr k = fr' k) : gs = gs' := by
  refine zip_eq (pw_uniq G.asc G'.asc fun t => ⟨G.sub G' hP hf, G'.sub G (fun k => (hP k).symm) fun k hk => (hf k ((hP k).mpr hk)).symm⟩) fun e he e' he' h => ?_
  obtain ⟨_, a2, a3⟩ := G.mem e he
  obtain ⟨_, b2, b3⟩ := G'.mem e' he'
  refine pw_uniq a2 b2 fun k => ?_
  rw [a3, b3, ← hP, h]
  exact ⟨fun q => ⟨q.1, by rw [← hf k q.1]; exact q.2⟩, fun q => ⟨q.1, by rw [hf k q.1]; exact q.2⟩⟩
theorem split_at {α : Type} (t : Int) : ∀ {ks : List (Int × α)}, (ks.map (·.1)).Pairwise (· < ·) → ∃ lo hi, ks = lo ++ hi ∧ (∀ e ∈ lo, e.1 < t) ∧ (∀ e ∈ hi, t ≤ e.1)
  | [], _ => ⟨[], [], rfl, by simp, by simp⟩
  | e :: ks, h => by
    rw [List.map_cons, List.pairwise_cons] at h
    by_cases he : e.1 < t
    · obtain ⟨lo, hi, rfl, h1, h2⟩ := split_at t h.2
      refine ⟨e :: lo, hi, rfl, fun x hx => ?_, h2⟩
      rcases List.mem_cons.mp hx with rfl | hx
      · exact he
      · exact h1 x hx
    · refine ⟨[], e :: ks, rfl, by simp, fun x hx => ?_⟩
      rcases List.mem_cons.mp hx with rfl | hx
      · omega
      · have := h.1 x.1 (List.mem_map_of_mem hx)
        omega
theorem pw_mid {lo hi : List (Int × List Int)} {t : Int} {l : List Int} (h : ((lo ++ hi).map (·.1)).Pairwise (· < ·)) (h1 : ∀ e ∈ lo, e.1 < t) (h2 : ∀ e ∈ hi, t < e.1) : ((lo ++ (t, l) :: hi).map (·.1)).Pairwise (· < ·) := by
  rw [List.map_append, List.pairwise_append] at h ⊢
  obtain ⟨a, b, c⟩ := h
  refine ⟨a, ?_, fun x hx y hy => ?_⟩
  · rw [List.map_cons, List.pairwise_cons]
    refine ⟨fun y hy => ?_, b⟩
    obtain ⟨e, he, rfl⟩ := List.mem_map.mp hy
    exact h2 e he
  · rw [List.map_cons] at hy
    rcases List.mem_cons.mp hy with rfl | hy
    · obtain ⟨e, he, rfl⟩ := List.mem_map.mp hx
      exact h1 e he
    · exact c x hx y hy
theorem Grp.ins {fr : Int → Int} {P : Int → Prop} {lo hi : List (Int × List Int)} {t k0 : Int} (G : Grp fr P (lo ++ hi)) (h1 : ∀ e ∈ lo, e.1 < t) (h2 : ∀ e ∈ hi, t < e.1) (hf : fr k0 = t) :
    Grp fr (fun k => P k ∨ k = k0) (lo ++ (t, [k0]) :: hi) := by
  have ne : ∀ e ∈ lo ++ hi, e.1 ≠ t := fun e he => by
    rcases List.mem_append.mp he with he | he
    · have := h1 e he; omega
    · have := h2 e he; omega
  refine ⟨pw_mid G.asc h1 h2, fun e he => ?_, fun k hk => ?_⟩
  · have hm : e ∈ lo ++ hi ∨ e = (t, [k0]) := by
      rcases List.mem_append.mp he with he | he
      · exact .inl (List.mem_append_left _ he)
      · rcases List.mem_cons.mp he with he | he
        · exact .inr he
        · exact .inl (List.mem_append_right _ he)
    rcases hm with hm | rfl
    · obtain ⟨a, b, c⟩ := G.mem e hm
      refine ⟨a, b, fun k => ?_⟩
      rw [c]
      constructor
      · rintro ⟨q, r⟩; exact ⟨.inl q, r⟩
      · rintro ⟨q | rfl, r⟩
        · exact ⟨q, r⟩
        · exact absurd (r.symm.trans hf) (ne e hm)
    · refine ⟨by simp, by simp, fun k => ?_⟩
      simp only [List.mem_singleton]
      constructor
      · rintro rfl; exact ⟨.inr rfl, hf⟩
      · rintro ⟨q | rfl, r⟩
        · obtain ⟨e', he', fe⟩ := G.all k q
          exact absurd (fe.symm.trans r) (ne e' he')
        · rfl
  · rcases hk with hk | rfl
    · obtain ⟨e, he, fe⟩ := G.all k hk
      refine ⟨e, ?_, fe⟩
      rcases List.mem_append.mp he with he | he
      · exact List.mem_append_left _ he
      · exact List.mem_append_right _ (List.mem_cons_of_mem _ he)
    · exact ⟨(t, [k]), by simp, hf⟩
theorem Grp.app {fr : Int → Int} {P : Int → Prop} {lo hi : List (Int × List Int)} {t k0 : Int} {l : List Int} (G : Grp fr P (lo ++ (t, l) :: hi)) (hk : ∀ k, P k → k < k0) (hf : fr k0 = t) :
    Grp fr (fun k => P k ∨ k = k0) (lo ++ (t, l ++ [k0]) :: hi) := by
  obtain ⟨a0, b0, c0⟩ := G.mem (t, l) (by simp)
  have asc := G.asc
  have ne : ∀ e ∈ lo ++ hi, e.1 ≠ t := fun e he => by
    rw [List.map_append, List.map_cons, List.pairwise_append] at asc
    rcases List.mem_append.mp he with he | he
    · have := asc.2.2 e.1 (List.mem_map_of_mem he) t (by simp); omega
    · have := (List.pairwise_cons.mp asc.2.1).1 e.1 (List.mem_map_of_mem he)
      simp only at this
      omega
  refine ⟨by simpa using asc, fun e he => ?_, fun k hk' => ?_⟩
  · have hm : e ∈ lo ++ hi ∨ e = (t, l ++ [k0]) := by
      rcases List.mem_append.mp he with he | he
      · exact .inl (List.mem_append_left _ he)
      · rcases List.mem_cons.mp he with he | he
        · exact .inr he
        · exact .inl (List.mem_append_right _ he)
    rcases hm with hm | rfl
    · have hm2 : e ∈ lo ++ (t, l) :: hi := by
        rcases List.mem_append.mp hm with he | he
        · exact List.mem_append_left _ he
        · exact List.mem_append_right _ (List.mem_cons_of_mem _ he)
      obtain ⟨a, b, c⟩ := G.mem e hm2
      refine ⟨a, b, fun k => ?_⟩
      rw [c]
      constructor
      · rintro ⟨q, r⟩; exact ⟨.inl q, r⟩
      · rintro ⟨q | rfl, r⟩
        · exact ⟨q, r⟩
        · exact absurd (r.symm.trans hf) (ne e hm)
    · simp only at c0 ⊢
      refine ⟨by simp, ?_, fun k => ?_⟩
      · rw [List.pairwise_append]
        refine ⟨b0, by simp, fun x hx y hy => ?_⟩
        rw [List.mem_singleton.mp hy]
        exact hk x ((c0 x).mp hx).1
      · rw [List.mem_append, c0, List.mem_singleton]
        constructor
        · rintro (⟨q, r⟩ | rfl)
          · exact ⟨.inl q, r⟩
          · exact ⟨.inr rfl, hf⟩
        · rintro ⟨q | rfl, r⟩
          · exact .inl ⟨q, r⟩
          · exact .inr rfl
  · rcases hk' with hk' | rfl
    · obtain ⟨e, he, fe⟩ := G.all k hk'
      rcases List.mem_append.mp he with he | he
      · exact ⟨e, List.mem_append_left _ he, fe⟩
      · rcases List.mem_cons.mp he with rfl | he
        · exact ⟨(t, l ++ [k0]), by simp, fe⟩
        · exact ⟨e, List.mem_append_right _ (List.mem_cons_of_mem _ he), fe⟩
    · exact ⟨(t, l ++ [k]), by simp, hf⟩
/-- clocks left out, empty groups dropped -/
theorem Grp.less {fr : Int → Int} {P : Int → Prop} {gs : List (Int × List Int)} (G : Grp fr P gs) (q : Int → Bool) :
    Grp fr (fun k => P k ∧ q k = true) ((gs.map fun e => (e.1, e.2.filter q)).filter fun e => !e.2.isEmpty) := by
  refine ⟨?_, fun e he => ?_, fun k hk => ?_⟩
  · have s : (((gs.map fun e => (e.1, e.2.filter q)).filter fun e => !e.2.isEmpty).map (·.1)).Sublist (gs.map (·.1)) := by
      have h1 := (List.filter_sublist (l := gs.map fun e => (e.1, e.2.filter q)) (p := fun e => !e.2.isEmpty)).map (·.1)
      have h2 : (gs.map fun e => (e.1, e.2.filter q)).map (·.1) = gs.map (·.1) := by rw [List.map_map]; rfl
      rw [h2] at h1
      exact h1
    exact G.asc.sublist s
  · obtain ⟨h1, h2⟩ := List.mem_filter.mp he
    obtain ⟨e', he', rfl⟩ := List.mem_map.mp h1
    obtain ⟨a, b, c⟩ := G.mem e' he'
    refine ⟨fun z => ?_, b.filter _, fun k => ?_⟩
    · simp only at z
      rw [z] at h2
      simp at h2
    · simp only [List.mem_filter, c]
      constructor
      · rintro ⟨⟨x, y⟩, z⟩; exact ⟨⟨x, z⟩, y⟩
      · rintro ⟨⟨x, z⟩, y⟩; exact ⟨⟨x, y⟩, z⟩
  · obtain ⟨e, he, fe⟩ := G.all k hk.1
    refine ⟨(e.1, e.2.filter q), List.mem_filter.mpr ⟨List.mem_map.mpr ⟨e, he, rfl⟩, ?_⟩, fe⟩
    have : k ∈ e.2.filter q := List.mem_filter.mpr ⟨((G.mem e he).2.2 k).mpr ⟨hk.1, fe⟩, hk.2⟩
    cases hq : e.2.filter q with
    | nil => rw [hq] at this; cases this
    | cons x xs => simp only [hq]; rfl
end K21
end

section
set_option Elab.async false
set_option linter.all false
set_option maxRecDepth 100000
set_option maxHeartbeats 1000000
open Z
local macro_rules | `(tactic| walk_at "z") => `(tactic| simp [fnF_eq, sSeq, sSet, sRet, sIf, sDrop, sNil, sAsg, sPar, sPut, F.then_nx, F.then_rt, F.then_bk, F.then_ct, F.then_ex, F.then_bad, F.then_ite, R.lift_ok, R.lift_ex, R.lift_bad, R.lift_ite, R.bind_ok, R.bind_ex, R.bind_bad, R.bind_ite, F.fin_nx, F.fin_rt, F.fin_ex, F.fin_bad, F.fin_ite, dVar, dC, bin, un, dAnd, dOr, dNot, tB', tAnd', tOr', tNot', dIf, asB_bl, aNil, aCons, dTup, mkT, dLst, mkL, fIx, seqOf, lstOf, L2.atI, L2.ixN, fAdd, fPlus, dSl, oSome, oNone, asI, fSl, fInT, fStr, fIntT, fFmt, dFmt, dJs, fPart, fStarts, fFind, fIsdig, fIsasc, fMulS, fSub, fMul, fLt, fGt, fLe, fGe, fEq, fDiv, fMod, fNeg, fPow, arity, dCall, dCallY, dCallK, noEx, dCB, fGcd, fLen, fMax2, fMin2, fInt, gN, gT, gAll, dIsi, fIsi, isTy, refOk, dIsN, dNotN, dIsB, dNotB, isNon, isBl, sz_lt, sz_le, sRaise, sTry, collapse_const, endX, dXf, dXis, dBM, dBM0, fPop, fApp, fRevM, fIns, fPopAt, tTr, fTr, aStar, dSoSet, sRetN, fTuple, fAbs, tyD, *])
local macro_rules | `(tactic| walk_at "y") => `(tactic| simp [fnF_eq, sSeq, sSet, sRet, sIf, sDrop, sNil, sAsg, sPar, sPut, F.then_nx, F.then_rt, F.then_bk, F.then_ct, F.then_ex, F.then_bad, F.then_ite, R.lift_ok, R.lift_ex, R.lift_bad, R.lift_ite, R.bind_ok, R.bind_ex, R.bind_bad, R.bind_ite, F.fin_nx, F.fin_rt, F.fin_ex, F.fin_bad, F.fin_ite, dVar, dC, bin, un, dAnd, dOr, dNot, tB', tAnd', tOr', tNot', dIf, asB_bl, aNil, aCons, dTup, mkT, dLst, mkL, fIx, seqOf, lstOf, L2.atI, L2.ixN, fAdd, fPlus, dSl, oSome, oNone, asI, fSl, fInT, fStr, fIntT, fFmt, dFmt, dJs, fPart, fStarts, fFind, fIsdig, fIsasc, fMulS, fSub, fMul, fLt, fGt, fLe, fGe, fEq, fDiv, fMod, fNeg, fPow, arity, dCall, dCallY, dCallK, noEx, dCB, fGcd, fLen, fMax2, fMin2, fInt, sFor, iRng1, fRng1, iSeq, asSeq, iAny, asAny, dIsi, fIsi, isTy, refOk, dIsN, dNotN, dIsB, dNotB, isNon, isBl, sz_lt, sz_le, sRaise, sTry, collapse_const, endX, dXf, dXis, dBM, dBM0, fPop, fApp, fRevM, fIns, fPopAt, tTr, fTr, aStar, dSoSet, sRetN, fTuple, fAbs, tyD, *])
local macro_rules | `(tactic| walk_at "v") => `(tactic| simp [fnF_eq, sSeq, sSet, sRet, sIf, sDrop, sNil, sAsg, sPar, sPut, F.then_nx, F.then_rt, F.then_bk, F.then_ct, F.then_ex, F.then_bad, F.then_ite, R.lift_ok, R.lift_ex, R.lift_bad, R.lift_ite, R.bind_ok, R.bind_ex, R.bind_bad, R.bind_ite, F.fin_nx, F.fin_rt, F.fin_ex, F.fin_bad, F.fin_ite, dVar, dC, bin, un, dAnd, dOr, dNot, tB', tAnd', tOr', tNot', dIf, asB_bl, aNil, aCons, dTup, mkT, dLst, mkL, seqOf, lstOf, fAdd, fPlus, dSl, oSome, oNone, asI, fInT, fStr, fIntT, fFmt, dFmt, dJs, fPart, fStarts, fFind, fIsdig, fIsasc, fMulS, fSub, fLt, fGt, fLe, fGe, fEq, fMod, fNeg, fPow, arity, dCall, dCallY, dCallK, noEx, dCB, fGcd, fMax2, fMin2, fInt, gN, gT, gAll, dIsi, fIsi, isTy, refOk, dIsN, dNotN, dIsB, dNotB, isNon, isBl, sz_lt, sz_le, sRaise, sTry, collapse_const, endX, dXf, dXis, dBM, dBM0, tTr, fTr, aStar, sRetN, fAbs, tyD, *])
namespace K21
abbrev dI (l : List Int) : List D := l.map D.int
def gD (m : Nat) (b : Int) (e : Int × Nat) : D := .lst [.int e.1, .int b, .ref (m + 3 + e.2)]
def KS (S0 : Sto) (b : Int) (W F : List Int) (ks : List (Int × Nat)) (R : List (List Int)) : Sto :=
  S0 ++ (.lst (dI W) :: .lst (dI F) :: .lst (ks.map (gD S0.length b)) :: R.map fun l => .lst (dI l))
section
variable {S0 : Sto} {b : Int} {W F : List Int} {ks ks' : List (Int × Nat)} {R : List (List Int)} {k0 : Int} {j : Nat} {l : List Int}
theorem ks_len : (KS S0 b W F ks R).length = S0.length + 3 + R.length := by unfold KS; simp; omega
theorem ks_q : (KS S0 b W F ks R)[S0.length + 2]? = some (.lst (ks.map (gD S0.length b))) := by
  unfold KS
  rw [List.getElem?_append_right (by omega)]
  simp
theorem ks_w : (KS S0 b W F ks R)[S0.length]? = some (.lst (dI W)) := by
  unfold KS
  rw [List.getElem?_append_right (by omega)]
  simp
theorem ks_f : (KS S0 b W F ks R)[S0.length + 1]? = some (.lst (dI F)) := by
  unfold KS
  rw [List.getElem?_append_right (by omega)]
  simp
theorem ks_r (h : j < R.length) : (KS S0 b W F ks R)[S0.length + 3 + j]? = some (.lst (dI R[j])) := by
  unfold KS
  rw [List.getElem?_append_right (by omega)]
  have : S0.length + 3 + j - S0.length = j + 3 := by omega
  rw [this]
  simp [h]
theorem ks_app : KS S0 b W F ks R ++ [.lst [.int k0]] = KS S0 b W F ks (R ++ [[k0]]) := by unfold KS; simp
theorem ks_setq : (KS S0 b W F ks R).set (S0.length + 2) (.lst (ks'.map (gD S0.length b))) = KS S0 b W F ks' R := by
  unfold KS
  rw [List.set_append_right _ _ (by omega)]
  simp
theorem ks_setw {W' : List Int} : (KS S0 b W F ks R).set S0.length (.lst (dI W')) = KS S0 b W' F ks R := by
  unfold KS
  rw [List.set_append_right _ _ (by omega)]
  simp
theorem ks_setf {F' : List Int} : (KS S0 b W F ks R).set (S0.length + 1) (.lst (dI F')) = KS S0 b W F' ks R := by
  unfold KS
  rw [List.set_append_right _ _ (by omega)]
  simp
theorem ks_setr : (KS S0 b W F ks R).set (S0.length + 3 + j) (.lst (dI l)) = KS S0 b W F ks (R.set j l) := by
  unfold KS
  rw [List.set_append_right _ _ (by omega)]
  have : S0.length + 3 + j - S0.length = j + 3 := by omega
  rw [this]
  simp [List.map_set]
end
theorem g0 (m : Nat) (b : Int) (e : Int × Nat) (S : Sto) : fIx (gD m b e) (.int 0) S = .ok (.int e.1) S := rfl
theorem g1 (m : Nat) (b : Int) (e : Int × Nat) (S : Sto) : fIx (gD m b e) (.int 1) S = .ok (.int b) S := rfl
theorem g2 (m : Nat) (b : Int) (e : Int × Nat) (S : Sto) : fIx (gD m b e) (.int 2) S = .ok (.ref (m + 3 + e.2)) S := rfl
noncomputable def cB : SDen := (sIf (tB' (bin fLt (bin fMul (bin fIx (dVar 5) (dC (.int 0))) (dVar 2)) (bin fMul (dVar 1) (bin fIx (dVar 5) (dC (.int 1)))))) (sSet 4 (bin fPlus (dVar 4) (dC (.int 1)))) (sNil))
theorem placed_def : F_law_placed = fnF 7 (sSeq (sSet 4 (dC (.int 0))) (sSeq (sFor (iAny (dVar 0)) (gN 5) cB) (sSeq (sIf (tB' (bin fLt (dVar 4) (dCB fLen (aCons (dVar 0) (aNil))))) (sSeq (sSet 6 (bin fIx (dVar 0) (dVar 4))) (sIf (tB' (bin (fEq false) (bin fMul (bin fIx (dVar 6) (dC (.int 0))) (dVar 2)) (bin fMul (dVar 1) (bin fIx (dVar 6) (dC (.int 1)))))) (sSeq (sDrop (dBM .list fApp (bin fIx (dVar 6) (dC (.int 2))) (aCons (dVar 3) (aNil)))) (sRetN)) (sNil))) (sNil)) (sDrop (dBM .list fIns (dVar 0) (aCons (dVar 4) (aCons (dLst false (aCons (dVar 1) (aCons (dVar 2) (aCons (dLst true (aCons (dVar 3) (aNil))) (aNil))))) (aNil)))))))) := rfl
theorem mul_lt {x t b : Int} (hb : 0 < b) : (x * b < t * b) = (x < t) := propext ⟨fun h => Int.lt_of_mul_lt_mul_right h (Int.le_of_lt hb), fun h => Int.mul_lt_mul_of_pos_right h hb⟩
theorem mul_eq {x t b : Int} (hb : 0 < b) : (x * b = t * b) = (x = t) := propext ⟨fun h => Int.eq_of_mul_eq_mul_right (by omega) h, fun h => by rw [h]⟩
theorem fMulb {x t b : Int} (hb : 0 < b ∧ b < 1000) (S : Sto) : fMul (.int x) (.int b) S = .ok (.int (x * b)) S := if_pos (mulc (by omega) x)
theorem cB_go {q : D} {t b c : Int} {m : Nat} {z6 : Option D} {S : Sto} {g : Sto → Prop} (hg : g S) (hb : 0 < b ∧ b < 1000) : ∀ (xs : List (Int × Nat)) (a : Nat) (y : Option D),
    ∃ y', forGo g (gN 5) cB (xs.map (gD m b)) [some q, some (.int t), some (.int b), some (.int c), some (.int a), y, z6] S = .nx [some q, some (.int t), some (.int b), some (.int c), some (.int ((a + (xs.filter fun e => decide (e.1 < t)).length : Nat) : Int)), y', z6] S
  | [], a, y => ⟨y, by rw [List.map_nil]; exact forGo_nil hg⟩
  | x :: xs, a, y => by
    have eg : ∀ u a b c d e f g, (gN 5).run u [a, b, c, d, e, f, g] = some [a, b, c, d, e, some u, g] := fun _ _ _ _ _ _ _ _ => rfl
    have G0 := g0 m b x S
    have G1 := g1 m b x S
    have M1 := fMulb (x := x.1) (t := t) hb S
    have M2 := fMulb (x := t) (t := t) hb S
    have ml := mul_lt (x := x.1) (t := t) hb.1
    by_cases h : x.1 < t
    · have eb : cB [some q, some (.int t), some (.int b), some (.int c), some (.int a), some (gD m b x), z6] S = .nx [some q, some (.int t), some (.int b), some (.int c), some (.int ((a + 1 : Nat) : Int)), some (gD m b x), z6] S := by
        clear hb
        unfold cB
        walk_at "v"
      obtain ⟨y', ih⟩ := cB_go (q := q) (t := t) (c := c) (m := m) (z6 := z6) hg hb xs (a + 1) (some (gD m b x))
      refine ⟨y', ?_⟩
      rw [List.map_cons, forGo, if_pos hg, eg]
      simp only [eb]
      rw [ih]
      have : a + 1 + (xs.filter fun e => decide (e.1 < t)).length = a + ((x :: xs).filter fun e => decide (e.1 < t)).length := by simp [h]; omega
      rw [this]
    · have eb : cB [some q, some (.int t), some (.int b), some (.int c), some (.int a), some (gD m b x), z6] S = .nx [some q, some (.int t), some (.int b), some (.int c), some (.int a), some (gD m b x), z6] S := by
        clear hb
        unfold cB
        walk_at "v"
      obtain ⟨y', ih⟩ := cB_go (q := q) (t := t) (c := c) (m := m) (z6 := z6) hg hb xs a (some (gD m b x))
      refine ⟨y', ?_⟩
      rw [List.map_cons, forGo, if_pos hg, eg]
      simp only [eb]
      rw [ih]
      have : (xs.filter fun e => decide (e.1 < t)).length = ((x :: xs).filter fun e => decide (e.1 < t)).length := by simp [h]
      rw [this]
end K21
end

section
set_option Elab.async false
set_option linter.all false
set_option maxRecDepth 100000
set_option maxHeartbeats 1000000
open Z
local macro_rules | `(tactic| walk_at "z") => `(tactic| simp [fnF_eq, sSeq, sSet, sRet, sIf, sDrop, sNil, sAsg, sPar, sPut, F.then_nx, F.then_rt, F.then_bk, F.then_ct, F.then_ex, F.then_bad, F.then_ite, R.lift_ok, R.lift_ex, R.lift_bad, R.lift_ite, R.bind_ok, R.bind_ex, R.bind_bad, R.bind_ite, F.fin_nx, F.fin_rt, F.fin_ex, F.fin_bad, F.fin_ite, dVar, dC, bin, un, dAnd, dOr, dNot, tB', tAnd', tOr', tNot', dIf, asB_bl, aNil, aCons, dTup, mkT, dLst, mkL, fIx, seqOf, lstOf, L2.atI, L2.ixN, fAdd, fPlus, dSl, oSome, oNone, asI, fSl, fInT, fStr, fIntT, fFmt, dFmt, dJs, fPart, fStarts, fFind, fIsdig, fIsasc, fMulS, fSub, fMul, fLt, fGt, fLe, fGe, fEq, fDiv, fMod, fNeg, fPow, arity, dCall, dCallY, dCallK, noEx, dCB, fGcd, fLen, fMax2, fMin2, fInt, gN, gT, gAll, dIsi, fIsi, isTy, refOk, dIsN, dNotN, dIsB, dNotB, isNon, isBl, sz_lt, sz_le, sRaise, sTry, collapse_const, endX, dXf, dXis, dBM, dBM0, fPop, fApp, fRevM, fIns, fPopAt, tTr, fTr, aStar, dSoSet, sRetN, fTuple, fAbs, tyD, *])
local macro_rules | `(tactic| walk_at "y") => `(tactic| simp [fnF_eq, sSeq, sSet, sRet, sIf, sDrop, sNil, sAsg, sPar, sPut, F.then_nx, F.then_rt, F.then_bk, F.then_ct, F.then_ex, F.then_bad, F.then_ite, R.lift_ok, R.lift_ex, R.lift_bad, R.lift_ite, R.bind_ok, R.bind_ex, R.bind_bad, R.bind_ite, F.fin_nx, F.fin_rt, F.fin_ex, F.fin_bad, F.fin_ite, dVar, dC, bin, un, dAnd, dOr, dNot, tB', tAnd', tOr', tNot', dIf, asB_bl, aNil, aCons, dTup, mkT, dLst, mkL, fIx, seqOf, lstOf, L2.atI, L2.ixN, fAdd, fPlus, dSl, oSome, oNone, asI, fSl, fInT, fStr, fIntT, fFmt, dFmt, dJs, fPart, fStarts, fFind, fIsdig, fIsasc, fMulS, fSub, fMul, fLt, fGt, fLe, fGe, fEq, fDiv, fMod, fNeg, fPow, arity, dCall, dCallY, dCallK, noEx, dCB, fGcd, fLen, fMax2, fMin2, fInt, sFor, iRng1, fRng1, iSeq, asSeq, iAny, asAny, dIsi, fIsi, isTy, refOk, dIsN, dNotN, dIsB, dNotB, isNon, isBl, sz_lt, sz_le, sRaise, sTry, collapse_const, endX, dXf, dXis, dBM, dBM0, fPop, fApp, fRevM, fIns, fPopAt, tTr, fTr, aStar, dSoSet, sRetN, fTuple, fAbs, tyD, *])
local macro_rules | `(tactic| walk_at "v") => `(tactic| simp [fnF_eq, sSeq, sSet, sRet, sIf, sDrop, sNil, sAsg, sPar, sPut, F.then_nx, F.then_rt, F.then_bk, F.then_ct, F.then_ex, F.then_bad, F.then_ite, R.lift_ok, R.lift_ex, R.lift_bad, R.lift_ite, R.bind_ok, R.bind_ex, R.bind_bad, R.bind_ite, F.fin_nx, F.fin_rt, F.fin_ex, F.fin_bad, F.fin_ite, dVar, dC, bin, un, dAnd, dOr, dNot, tB', tAnd', tOr', tNot', dIf, asB_bl, aNil, aCons, dTup, mkT, dLst, mkL, seqOf, lstOf, fAdd, fPlus, dSl, oSome, oNone, asI, fInT, fStr, fIntT, fFmt, dFmt, dJs, fPart, fStarts, fFind, fIsdig, fIsasc, fMulS, fSub, fLt, fGt, fLe, fGe, fEq, fMod, fNeg, fPow, arity, dCall, dCallY, dCallK, noEx, dCB, fGcd, fMax2, fMin2, fInt, gN, gT, gAll, dIsi, fIsi, isTy, refOk, dIsN, dNotN, dIsB, dNotB, isNon, isBl, sz_lt, sz_le, sRaise, sTry, collapse_const, endX, dXf, dXis, dBM, dBM0, tTr, fTr, aStar, sRetN, fAbs, *])
local macro_rules | `(tactic| walk_at "u") => `(tactic| simp [fnF_eq, sSeq, sSet, sRet, sIf, sDrop, sNil, sAsg, sPar, sPut, F.then_nx, F.then_rt, F.then_bk, F.then_ct, F.then_ex, F.then_bad, F.then_ite, R.lift_ok, R.lift_ex, R.lift_bad, R.lift_ite, R.bind_ok, R.bind_ex, R.bind_bad, R.bind_ite, F.fin_nx, F.fin_rt, F.fin_ex, F.fin_bad, F.fin_ite, dVar, dC, bin, un, dAnd, dOr, dNot, tB', tAnd', tOr', tNot', dIf, asB_bl, aNil, aCons, dTup, mkT, dLst, mkL, seqOf, lstOf, fAdd, fPlus, dSl, oSome, oNone, asI, fInT, fStr, fIntT, fFmt, dFmt, dJs, fPart, fStarts, fFind, fIsdig, fIsasc, fMulS, fSub, fLt, fGt, fLe, fGe, fEq, fMod, fNeg, fPow, arity, dCall, dCallY, dCallK, noEx, dCB, fGcd, fMax2, fMin2, fInt, dIsi, fIsi, isTy, refOk, dIsN, dNotN, dIsB, dNotB, isNon, isBl, sz_lt, sz_le, sRaise, sTry, collapse_const, endX, dXf, dXis, dBM, dBM0, tTr, fTr, aStar, sRetN, fAbs, sFor, iAny, iRng1, iEn, *])
namespace K21
abbrev gs1 (R : List (List Int)) (e : Int × Nat) : Int × List Int := (e.1, R.getD e.2 [])
abbrev gsOf (ks : List (Int × Nat)) (R : List (List Int)) : List (Int × List Int) := ks.map (gs1 R)
structure KI (fr : Int → Int) (P : Int → Prop) (n : Nat) (ks : List (Int × Nat)) (R : List (List Int)) : Prop where
  grp : Grp fr P (gsOf ks R)
  nd : (ks.map (·.2)).Nodup
  ix : ∀ e ∈ ks, e.2 < R.length
  kl : ks.length ≤ n
  rl : ∀ l ∈ R, l.length ≤ n
theorem tk {α : Type} (lo : List α) (x : α) (hi : List α) : (lo ++ hi).take lo.length ++ x :: (lo ++ hi).drop lo.length = lo ++ x :: hi := by simp
theorem fIns_eq {n A : Nat} {y : D} {xs : List D} {S : Sto} (h : S[n]? = some (.lst xs)) (hl : xs.length ≤ 500) (hA : A ≤ 500) : fIns (.ref n) [.int (A : Int), y] S = .ok .non (S.set n (.lst (xs.take A ++ y :: xs.drop A))) := by
  have f : FitS xs.length := of_eq_true (sz_lt (by omega))
  have a : (0 : Int) ≤ A ∧ (A : Int) < 1000000 := by omega
  simp [fIns, h, f]
  omega
theorem fApp_eq {n : Nat} {y : D} {xs : List D} {S : Sto} (h : S[n]? = some (.lst xs)) (hl : xs.length ≤ 500) : fApp (.ref n) [y] S = .ok .non (S.set n (.lst (xs ++ [y]))) := by
  have f : FitS xs.length := of_eq_true (sz_lt (by omega))
  simp [fApp, h, f]
theorem fLen_ref {n : Nat} {xs : List D} {S : Sto} (h : S[n]? = some (.lst xs)) : fLen [.ref n] S = .ok (.int (xs.length : Int)) S := by simp [fLen, seqOf, h]
theorem fIx_ref {n A : Nat} {xs : List D} {x : D} {S : Sto} (h : S[n]? = some (.lst xs)) (hx : xs[A]? = some x) : fIx (.ref n) (.int (A : Int)) S = .ok x S := by
  have hl : A < xs.length := (List.getElem?_eq_some_iff.mp hx).1
  have a1 : (0 : Int) ≤ A := by omega
  have a2 : (A : Int) < xs.length := by omega
  simp [fIx, seqOf, h, L2.atI, L2.ixN, a1, a2, hx]
theorem tyl {n : Nat} {xs : List D} {S : Sto} (h : S[n]? = some (.lst xs)) : tyD .list (.ref n) S = true := by simp [tyD, lstOf, h]
theorem asAny_ref {n : Nat} {xs : List D} {S : Sto} (h : S[n]? = some (.lst xs)) : asAny (.ref n) S = .ok (xs, fun S => S[n]? = some (.lst xs)) S := by
  simp only [asAny, asSeq, seqOf, h]
  rfl
section
variable {S0 : Sto} {b t k0 : Int} {W F : List Int} {R : List (List Int)} {lo hi : List (Int × Nat)}
theorem cnt (h1 : ∀ e ∈ lo, e.1 < t) (h2 : ∀ e ∈ hi, t ≤ e.1) : ((lo ++ hi).filter fun e => decide (e.1 < t)).length = lo.length := by
  rw [List.filter_append, List.filter_eq_self.mpr fun e he => decide_eq_true (h1 e he), List.filter_eq_nil_iff.mpr fun e he => by have := h2 e he; simp; omega, List.append_nil]
theorem placed_ins (hb : 0 < b ∧ b < 1000) (h1 : ∀ e ∈ lo, e.1 < t) (h2 : ∀ e ∈ hi, t < e.1) (hl : (lo ++ hi).length ≤ 400) :
    F_law_placed [.ref (S0.length + 2), .int t, .int b, .int k0] (KS S0 b W F (lo ++ hi) R) = .ok .non (KS S0 b W F (lo ++ (t, R.length) :: hi) (R ++ [[k0]])) := by
  obtain ⟨y', lp⟩ := cB_go (q := .ref (S0.length + 2)) (t := t) (b := b) (c := k0) (m := S0.length) (z6 := none) (S := KS S0 b W F (lo ++ hi) R) (g := fun S => S[S0.length + 2]? = some (.lst ((lo ++ hi).map (gD S0.length b)))) ks_q hb (lo ++ hi) 0 none
  rw [cnt h1 fun e he => Int.le_of_lt (h2 e he), Nat.zero_add] at lp
  have q := ks_q (S0 := S0) (b := b) (W := W) (F := F) (ks := lo ++ hi) (R := R)
  have an := asAny_ref q
  have ln := fLen_ref q
  have kl := ks_len (S0 := S0) (b := b) (W := W) (F := F) (ks := lo ++ hi) (R := R)
  have ka := ks_app (S0 := S0) (b := b) (W := W) (F := F) (ks := lo ++ hi) (R := R) (k0 := k0)
  have q2 := ks_q (S0 := S0) (b := b) (W := W) (F := F) (ks := lo ++ hi) (R := R ++ [[k0]])
  have ty := tyl q
  have fi := fIns_eq (A := lo.length) (y := gD S0.length b (t, R.length)) q2 (by rw [List.length_map]; omega) (by simp only [List.length_append] at hl; omega)
  rw [← List.map_take, ← List.map_drop, ← List.map_cons, ← List.map_append, tk, ks_setq] at fi
  have gd : gD S0.length b (t, R.length) = .lst [.int t, .int b, .ref (S0.length + 3 + R.length)] := rfl
  rw [gd] at fi
  rw [placed_def]
  rw [List.length_map] at ln
  generalize hG : KS S0 b W F (lo ++ hi) R = G at *
  have e0 : ((0 : Nat) : Int) = 0 := rfl
  rw [e0] at lp
  by_cases hA : lo.length < (lo ++ hi).length
  · have hA' : (lo.length : Int) < ((lo ++ hi).length : Int) := by omega
    cases hi with
    | nil => simp at hA
    | cons x hi =>
      have fx := fIx_ref (A := lo.length) (x := gD S0.length b x) q (by simp)
      have G0 := g0 S0.length b x G
      have G1 := g1 S0.length b x G
      have M1 := fMulb (x := x.1) (t := t) hb G
      have M2 := fMulb (x := t) (t := t) hb G
      have me := mul_eq (x := x.1) (t := t) hb.1
      have ne : ¬ x.1 = t := by have := h2 x (by simp); omega
      clear q q2 hG h1 h2 hl hA
      generalize hL : ((lo ++ x :: hi).length : Int) = L at *
      generalize lo ++ x :: hi = ks at *
      generalize lo ++ (t, R.length) :: x :: hi = ks2 at *
      clear hb gd
      walk_at "u"
  · have hA' : ¬ (lo.length : Int) < ((lo ++ hi).length : Int) := by omega
    clear q q2 hG h1 h2 hl hA
    generalize hL : ((lo ++ hi).length : Int) = L at *
    generalize lo ++ hi = ks at *
    generalize lo ++ (t, R.length) :: hi = ks2 at *
    clear hb gd
    walk_at "u"
end
end K21
end

section
set_option Elab.async false
set_option linter.all false
set_option maxRecDepth 100000
set_option maxHeartbeats 1000000
open Z
local macro_rules | `(tactic| walk_at "z") => `(tactic| simp [fnF_eq, sSeq, sSet, sRet, sIf, sDrop, sNil, sAsg, sPar, sPut, F.then_nx, F.then_rt, F.then_bk, F.then_ct, F.then_ex, F.then_bad, F.then_ite, R.lift_ok, R.lift_ex, R.lift_bad, R.lift_ite, R.bind_ok, R.bind_ex, R.bind_bad, R.bind_ite, F.fin_nx, F.fin_rt, F.fin_ex, F.fin_bad, F.fin_ite, dVar, dC, bin, un, dAnd, dOr, dNot, tB', tAnd', tOr', tNot', dIf, asB_bl, aNil, aCons, dTup, mkT, dLst, mkL, fIx, seqOf, lstOf, L2.atI, L2.ixN, fAdd, fPlus, dSl, oSome, oNone, asI, fSl, fInT, fStr, fIntT, fFmt, dFmt, dJs, fPart, fStarts, fFind, fIsdig, fIsasc, fMulS, fSub, fMul, fLt, fGt, fLe, fGe, fEq, fDiv, fMod, fNeg, fPow, arity, dCall, dCallY, dCallK, noEx, dCB, fGcd, fLen, fMax2, fMin2, fInt, gN, gT, gAll, dIsi, fIsi, isTy, refOk, dIsN, dNotN, dIsB, dNotB, isNon, isBl, sz_lt, sz_le, sRaise, sTry, collapse_const, endX, dXf, dXis, dBM, dBM0, fPop, fApp, fRevM, fIns, fPopAt, tTr, fTr, aStar, dSoSet, sRetN, fTuple, fAbs, tyD, *])
local macro_rules | `(tactic| walk_at "y") => `(tactic| simp [fnF_eq, sSeq, sSet, sRet, sIf, sDrop, sNil, sAsg, sPar, sPut, F.then_nx, F.then_rt, F.then_bk, F.then_ct, F.then_ex, F.then_bad, F.then_ite, R.lift_ok, R.lift_ex, R.lift_bad, R.lift_ite, R.bind_ok, R.bind_ex, R.bind_bad, R.bind_ite, F.fin_nx, F.fin_rt, F.fin_ex, F.fin_bad, F.fin_ite, dVar, dC, bin, un, dAnd, dOr, dNot, tB', tAnd', tOr', tNot', dIf, asB_bl, aNil, aCons, dTup, mkT, dLst, mkL, fIx, seqOf, lstOf, L2.atI, L2.ixN, fAdd, fPlus, dSl, oSome, oNone, asI, fSl, fInT, fStr, fIntT, fFmt, dFmt, dJs, fPart, fStarts, fFind, fIsdig, fIsasc, fMulS, fSub, fMul, fLt, fGt, fLe, fGe, fEq, fDiv, fMod, fNeg, fPow, arity, dCall, dCallY, dCallK, noEx, dCB, fGcd, fLen, fMax2, fMin2, fInt, sFor, iRng1, fRng1, iSeq, asSeq, iAny, asAny, dIsi, fIsi, isTy, refOk, dIsN, dNotN, dIsB, dNotB, isNon, isBl, sz_lt, sz_le, sRaise, sTry, collapse_const, endX, dXf, dXis, dBM, dBM0, fPop, fApp, fRevM, fIns, fPopAt, tTr, fTr, aStar, dSoSet, sRetN, fTuple, fAbs, tyD, *])
local macro_rules | `(tactic| walk_at "v") => `(tactic| simp [fnF_eq, sSeq, sSet, sRet, sIf, sDrop, sNil, sAsg, sPar, sPut, F.then_nx, F.then_rt, F.then_bk, F.then_ct, F.then_ex, F.then_bad, F.then_ite, R.lift_ok, R.lift_ex, R.lift_bad, R.lift_ite, R.bind_ok, R.bind_ex, R.bind_bad, R.bind_ite, F.fin_nx, F.fin_rt, F.fin_ex, F.fin_bad, F.fin_ite, dVar, dC, bin, un, dAnd, dOr, dNot, tB', tAnd', tOr', tNot', dIf, asB_bl, aNil, aCons, dTup, mkT, dLst, mkL, seqOf, lstOf, fAdd, fPlus, dSl, oSome, oNone, asI, fInT, fStr, fIntT, fFmt, dFmt, dJs, fPart, fStarts, fFind, fIsdig, fIsasc, fMulS, fSub, fLt, fGt, fLe, fGe, fEq, fMod, fNeg, fPow, arity, dCall, dCallY, dCallK, noEx, dCB, fGcd, fMax2, fMin2, fInt, gN, gT, gAll, dIsi, fIsi, isTy, refOk, dIsN, dNotN, dIsB, dNotB, isNon, isBl, sz_lt, sz_le, sRaise, sTry, collapse_const, endX, dXf, dXis, dBM, dBM0, tTr, fTr, aStar, sRetN, fAbs, *])
local macro_rules | `(tactic| walk_at "u") => `(tactic| simp [fnF_eq, sSeq, sSet, sRet, sIf, sDrop, sNil, sAsg, sPar, sPut, F.then_nx, F.then_rt, F.then_bk, F.then_ct, F.then_ex, F.then_bad, F.then_ite, R.lift_ok, R.lift_ex, R.lift_bad, R.lift_ite, R.bind_ok, R.bind_ex, R.bind_bad, R.bind_ite, F.fin_nx, F.fin_rt, F.fin_ex, F.fin_bad, F.fin_ite, dVar, dC, bin, un, dAnd, dOr, dNot, tB', tAnd', tOr', tNot', dIf, asB_bl, aNil, aCons, dTup, mkT, dLst, mkL, seqOf, lstOf, fAdd, fPlus, dSl, oSome, oNone, asI, fInT, fStr, fIntT, fFmt, dFmt, dJs, fPart, fStarts, fFind, fIsdig, fIsasc, fMulS, fSub, fLt, fGt, fLe, fGe, fEq, fMod, fNeg, fPow, arity, dCall, dCallY, dCallK, noEx, dCB, fGcd, fMax2, fMin2, fInt, dIsi, fIsi, isTy, refOk, dIsN, dNotN, dIsB, dNotB, isNon, isBl, sz_lt, sz_le, sRaise, sTry, collapse_const, endX, dXf, dXis, dBM, dBM0, tTr, fTr, aStar, sRetN, fAbs, sFor, iAny, iRng1, iEn, *])
namespace K21
section
variable {S0 : Sto} {b t k0 : Int} {W F : List Int} {R : List (List Int)} {lo hi : List (Int × Nat)} {j : Nat}
theorem placed_app (hb : 0 < b ∧ b < 1000) (h1 : ∀ e ∈ lo, e.1 < t) (h2 : ∀ e ∈ hi, t < e.1) (hj : j < R.length) (hl : (lo ++ (t, j) :: hi).length ≤ 400) (hr : R[j].length ≤ 400) :
    F_law_placed [.ref (S0.length + 2), .int t, .int b, .int k0] (KS S0 b W F (lo ++ (t, j) :: hi) R) = .ok .non (KS S0 b W F (lo ++ (t, j) :: hi) (R.set j (R[j] ++ [k0]))) := by
  obtain ⟨y', lp⟩ := cB_go (q := .ref (S0.length + 2)) (t := t) (b := b) (c := k0) (m := S0.length) (z6 := none) (S := KS S0 b W F (lo ++ (t, j) :: hi) R) (g := fun S => S[S0.length + 2]? = some (.lst ((lo ++ (t, j) :: hi).map (gD S0.length b)))) ks_q hb (lo ++ (t, j) :: hi) 0 none
  rw [cnt h1 fun e he => by
    rcases List.mem_cons.mp he with rfl | he
    · exact Int.le_refl _
    · exact Int.le_of_lt (h2 e he), Nat.zero_add] at lp
  have q := ks_q (S0 := S0) (b := b) (W := W) (F := F) (ks := lo ++ (t, j) :: hi) (R := R)
  have qr := ks_r (S0 := S0) (b := b) (W := W) (F := F) (ks := lo ++ (t, j) :: hi) (R := R) hj
  have an := asAny_ref q
  have ln := fLen_ref q
  have ty := tyl qr
  have fa := fApp_eq (y := .int k0) qr (by rw [List.length_map]; omega)
  have ea : dI R[j] ++ [D.int k0] = dI (R[j] ++ [k0]) := by simp
  rw [ea, ks_setr] at fa
  have fx := fIx_ref (A := lo.length) (x := gD S0.length b (t, j)) q (by simp)
  rw [placed_def]
  rw [List.length_map] at ln
  have hA' : (lo.length : Int) < ((lo ++ (t, j) :: hi).length : Int) := by simp only [List.length_append, List.length_cons]; omega
  generalize hG : KS S0 b W F (lo ++ (t, j) :: hi) R = G at *
  have G0 := g0 S0.length b (t, j) G
  have G1 := g1 S0.length b (t, j) G
  have G2 := g2 S0.length b (t, j) G
  have M1 := fMulb (x := t) (t := t) hb G
  have e0 : ((0 : Nat) : Int) = 0 := rfl
  rw [e0] at lp
  simp only at G0 G2
  clear q qr hG h1 h2 hl hr hb ea
  generalize hL : ((lo ++ (t, j) :: hi).length : Int) = L at *
  generalize lo ++ (t, j) :: hi = ks at *
  generalize gD S0.length b (t, j) = gg at *
  walk_at "u"
theorem gs_ext {lo : List (Int × Nat)} {R R' : List (List Int)} (h : ∀ e ∈ lo, R'.getD e.2 [] = R.getD e.2 []) : gsOf lo R' = gsOf lo R := List.map_congr_left fun e he => by
  show (e.1, R'.getD e.2 []) = (e.1, R.getD e.2 [])
  rw [h e he]
theorem placed_inv {fr : Int → Int} {P : Int → Prop} {n : Nat} {ks : List (Int × Nat)} (hb : 0 < b ∧ b < 1000) (K : KI fr P n ks R) (hn : n < 400) (hP : ∀ k, P k → k < k0) (hf : fr k0 = t) :
    ∃ ks' R', F_law_placed [.ref (S0.length + 2), .int t, .int b, .int k0] (KS S0 b W F ks R) = .ok .non (KS S0 b W F ks' R') ∧ KI fr (fun k => P k ∨ k = k0) (n + 1) ks' R' := by
  obtain ⟨gr, nd, ix, kl, rl⟩ := K
  have asc : (ks.map (·.1)).Pairwise (· < ·) := by
    have := gr.asc
    rw [List.map_map] at this
    exact this
  obtain ⟨lo, hi, rfl, h1, h2⟩ := split_at t asc
  have ins : (∀ e ∈ hi, t < e.1) → ∃ ks' R', F_law_placed [.ref (S0.length + 2), .int t, .int b, .int k0] (KS S0 b W F (lo ++ hi) R) = .ok .non (KS S0 b W F ks' R') ∧ KI fr (fun k => P k ∨ k = k0) (n + 1) ks' R' := fun h2' => by
    refine ⟨_, _, placed_ins hb h1 h2' (by omega), ?_⟩
    have ext : ∀ e ∈ lo ++ hi, (R ++ [[k0]]).getD e.2 [] = R.getD e.2 [] := fun e he => by
      have := ix e he
      simp [List.getD, List.getElem?_append_left this]
    have e1 : gsOf (lo ++ (t, R.length) :: hi) (R ++ [[k0]]) = gsOf lo R ++ (t, [k0]) :: gsOf hi R := by
      rw [gsOf, List.map_append, List.map_cons, ← gs_ext (R := R) (R' := R ++ [[k0]]) fun e he => ext e (List.mem_append_left _ he), ← gs_ext (R := R) (R' := R ++ [[k0]]) (lo := hi) fun e he => ext e (List.mem_append_right _ he)]
      simp [gs1, List.getD]
    refine ⟨?_, ?_, fun e he => ?_, ?_, fun l hl => ?_⟩
    · rw [e1]
      rw [gsOf, List.map_append] at gr
      refine gr.ins (fun e he => ?_) (fun e he => ?_) hf
      · obtain ⟨x, hx, rfl⟩ := List.mem_map.mp he
        exact h1 x hx
      · obtain ⟨x, hx, rfl⟩ := List.mem_map.mp he
        exact h2' x hx
    · rw [List.map_append, List.map_cons]
      rw [List.map_append] at nd
      have nn : ∀ e ∈ lo ++ hi, e.2 ≠ R.length := fun e he => Nat.ne_of_lt (ix e he)
      rw [List.nodup_append] at nd ⊢
      obtain ⟨n1, n2, n3⟩ := nd
      refine ⟨n1, List.nodup_cons.mpr ⟨fun h => ?_, n2⟩, fun x hx y hy => ?_⟩
      · obtain ⟨e, he, q⟩ := List.mem_map.mp h
        exact nn e (List.mem_append_right _ he) q
      · rcases List.mem_cons.mp hy with rfl | hy
        · obtain ⟨e, he, rfl⟩ := List.mem_map.mp hx
          exact nn e (List.mem_append_left _ he)
        · exact n3 x hx y hy
    · rw [List.length_append]
      rcases List.mem_append.mp he with he | he
      · have := ix e (List.mem_append_left _ he); omega
      · rcases List.mem_cons.mp he with rfl | he
        · simp
        · have := ix e (List.mem_append_right _ he); omega
    · simp only [List.length_append, List.length_cons] at kl ⊢; omega
    · rcases List.mem_append.mp hl with hl | hl
      · have := rl l hl; omega
      · rw [List.mem_singleton.mp hl]; simp
  cases hi with
  | nil => exact ins (by simp)
  | cons x hi =>
    have h3 : ∀ e ∈ hi, x.1 < e.1 := fun e he => by
      rw [List.map_append, List.map_cons, List.pairwise_append] at asc
      exact (List.pairwise_cons.mp asc.2.1).1 e.1 (List.mem_map_of_mem he)
    by_cases hx : x.1 = t
    · obtain ⟨x1, j⟩ := x
      simp only at hx h3
      subst hx
      have hj : j < R.length := ix (x1, j) (by simp)
      have hrj : R[j].length ≤ n := rl _ (List.getElem_mem hj)
      refine ⟨_, _, placed_app hb h1 h3 hj (by omega) (by omega), ?_⟩
      have nj : ∀ e ∈ lo ++ hi, e.2 ≠ j := fun e he q => by
        rw [List.map_append, List.map_cons, List.nodup_append] at nd
        obtain ⟨n1, n2, n3⟩ := nd
        rcases List.mem_append.mp he with he | he
        · exact n3 e.2 (List.mem_map_of_mem he) j (by simp) q
        · exact (List.nodup_cons.mp n2).1 (List.mem_map.mpr ⟨e, he, q⟩)
      have ext : ∀ e ∈ lo ++ hi, (R.set j (R[j] ++ [k0])).getD e.2 [] = R.getD e.2 [] := fun e he => by
        have := nj e he
        simp [List.getD, List.getElem?_set_ne (Ne.symm this)]
      have e1 : gsOf (lo ++ (x1, j) :: hi) (R.set j (R[j] ++ [k0])) = gsOf lo R ++ (x1, R[j] ++ [k0]) :: gsOf hi R := by
        rw [gsOf, List.map_append, List.map_cons, ← gs_ext (R := R) (R' := R.set j (R[j] ++ [k0])) fun e he => ext e (List.mem_append_left _ he), ← gs_ext (R := R) (R' := R.set j (R[j] ++ [k0])) (lo := hi) fun e he => ext e (List.mem_append_right _ he)]
        simp [gs1, List.getD, hj]
      have e2 : gsOf (lo ++ (x1, j) :: hi) R = gsOf lo R ++ (x1, R[j]) :: gsOf hi R := by
        rw [gsOf, List.map_append, List.map_cons]
        simp [gs1, List.getD, hj]
      refine ⟨?_, nd, fun e he => by rw [List.length_set]; exact ix e he, by omega, fun l hl => ?_⟩
      · rw [e1]
        rw [e2] at gr
        exact gr.app hP hf
      · rcases List.mem_or_eq_of_mem_set hl with hl | rfl
        · have := rl l hl; omega
        · rw [List.length_append]; simp; omega
    · refine ins fun e he => ?_
      have := h2 x (by simp)
      rcases List.mem_cons.mp he with rfl | he
      · omega
      · have := h3 e he; omega
end
end K21
end

section
set_option Elab.async false
set_option linter.all false
set_option maxRecDepth 100000
set_option maxHeartbeats 1000000
open Z
local macro_rules | `(tactic| walk_at "z") => `(tactic| simp [fnF_eq, sSeq, sSet, sRet, sIf, sDrop, sNil, sAsg, sPar, sPut, F.then_nx, F.then_rt, F.then_bk, F.then_ct, F.then_ex, F.then_bad, F.then_ite, R.lift_ok, R.lift_ex, R.lift_bad, R.lift_ite, R.bind_ok, R.bind_ex, R.bind_bad, R.bind_ite, F.fin_nx, F.fin_rt, F.fin_ex, F.fin_bad, F.fin_ite, dVar, dC, bin, un, dAnd, dOr, dNot, tB', tAnd', tOr', tNot', dIf, asB_bl, aNil, aCons, dTup, mkT, dLst, mkL, fIx, seqOf, lstOf, L2.atI, L2.ixN, fAdd, fPlus, dSl, oSome, oNone, asI, fSl, fInT, fStr, fIntT, fFmt, dFmt, dJs, fPart, fStarts, fFind, fIsdig, fIsasc, fMulS, fSub, fMul, fLt, fGt, fLe, fGe, fEq, fDiv, fMod, fNeg, fPow, arity, dCall, dCallY, dCallK, noEx, dCB, fGcd, fLen, fMax2, fMin2, fInt, gN, gT, gAll, dIsi, fIsi, isTy, refOk, dIsN, dNotN, dIsB, dNotB, isNon, isBl, sz_lt, sz_le, sRaise, sTry, collapse_const, endX, dXf, dXis, dBM, dBM0, fPop, fApp, fRevM, fIns, fPopAt, tTr, fTr, aStar, dSoSet, sRetN, fTuple, fAbs, tyD, *])
local macro_rules | `(tactic| walk_at "y") => `(tactic| simp [fnF_eq, sSeq, sSet, sRet, sIf, sDrop, sNil, sAsg, sPar, sPut, F.then_nx, F.then_rt, F.then_bk, F.then_ct, F.then_ex, F.then_bad, F.then_ite, R.lift_ok, R.lift_ex, R.lift_bad, R.lift_ite, R.bind_ok, R.bind_ex, R.bind_bad, R.bind_ite, F.fin_nx, F.fin_rt, F.fin_ex, F.fin_bad, F.fin_ite, dVar, dC, bin, un, dAnd, dOr, dNot, tB', tAnd', tOr', tNot', dIf, asB_bl, aNil, aCons, dTup, mkT, dLst, mkL, fIx, seqOf, lstOf, L2.atI, L2.ixN, fAdd, fPlus, dSl, oSome, oNone, asI, fSl, fInT, fStr, fIntT, fFmt, dFmt, dJs, fPart, fStarts, fFind, fIsdig, fIsasc, fMulS, fSub, fMul, fLt, fGt, fLe, fGe, fEq, fDiv, fMod, fNeg, fPow, arity, dCall, dCallY, dCallK, noEx, dCB, fGcd, fLen, fMax2, fMin2, fInt, sFor, iRng1, fRng1, iSeq, asSeq, iAny, asAny, dIsi, fIsi, isTy, refOk, dIsN, dNotN, dIsB, dNotB, isNon, isBl, sz_lt, sz_le, sRaise, sTry, collapse_const, endX, dXf, dXis, dBM, dBM0, fPop, fApp, fRevM, fIns, fPopAt, tTr, fTr, aStar, dSoSet, sRetN, fTuple, fAbs, tyD, *])
local macro_rules | `(tactic| walk_at "v") => `(tactic| simp [fnF_eq, sSeq, sSet, sRet, sIf, sDrop, sNil, sAsg, sPar, sPut, F.then_nx, F.then_rt, F.then_bk, F.then_ct, F.then_ex, F.then_bad, F.then_ite, R.lift_ok, R.lift_ex, R.lift_bad, R.lift_ite, R.bind_ok, R.bind_ex, R.bind_bad, R.bind_ite, F.fin_nx, F.fin_rt, F.fin_ex, F.fin_bad, F.fin_ite, dVar, dC, bin, un, dAnd, dOr, dNot, tB', tAnd', tOr', tNot', dIf, asB_bl, aNil, aCons, dTup, mkT, dLst, mkL, seqOf, lstOf, fAdd, fPlus, dSl, oSome, oNone, asI, fInT, fStr, fIntT, fFmt, dFmt, dJs, fPart, fStarts, fFind, fIsdig, fIsasc, fMulS, fSub, fLt, fGt, fLe, fGe, fEq, fMod, fNeg, fPow, arity, dCall, dCallY, dCallK, noEx, dCB, fGcd, fMax2, fMin2, fInt, gN, gT, gAll, dIsi, fIsi, isTy, refOk, dIsN, dNotN, dIsB, dNotB, isNon, isBl, sz_lt, sz_le, sRaise, sTry, collapse_const, endX, dXf, dXis, dBM, dBM0, tTr, fTr, aStar, sRetN, fAbs, *])
local macro_rules | `(tactic| walk_at "u") => `(tactic| simp [fnF_eq, sSeq, sSet, sRet, sIf, sDrop, sNil, sAsg, sPar, sPut, F.then_nx, F.then_rt, F.then_bk, F.then_ct, F.then_ex, F.then_bad, F.then_ite, R.lift_ok, R.lift_ex, R.lift_bad, R.lift_ite, R.bind_ok, R.bind_ex, R.bind_bad, R.bind_ite, F.fin_nx, F.fin_rt, F.fin_ex, F.fin_bad, F.fin_ite, dVar, dC, bin, un, dAnd, dOr, dNot, tB', tAnd', tOr', tNot', dIf, asB_bl, aNil, aCons, dTup, mkT, dLst, mkL, seqOf, lstOf, fAdd, fPlus, dSl, oSome, oNone, asI, fInT, fStr, fIntT, fFmt, dFmt, dJs, fPart, fStarts, fFind, fIsdig, fIsasc, fMulS, fSub, fLt, fGt, fLe, fGe, fEq, fMod, fNeg, fPow, arity, dCall, dCallY, dCallK, noEx, dCB, fGcd, fMax2, fMin2, fInt, dIsi, fIsi, isTy, refOk, dIsN, dNotN, dIsB, dNotB, isNon, isBl, sz_lt, sz_le, sRaise, sTry, collapse_const, endX, dXf, dXis, dBM, dBM0, tTr, fTr, aStar, sRetN, fAbs, sFor, iAny, iRng1, iEn, *])
namespace K21
noncomputable def kB : SDen := (sSeq (sSet 6 (bin fIx (bin fIx (dVar 0) (dVar 5)) (dC (.int 0)))) (sSeq (sSet 7 (bin fIx (bin fIx (dVar 0) (dVar 5)) (dC (.int 1)))) (sSeq (sSet 8 (bin fDiv (dVar 6) (dVar 7))) (sIf (tB' (bin fGt (dVar 6) (bin fMul (bin fIx (dVar 1) (dVar 5)) (dVar 7)))) (sDrop (dBM .list fApp (dVar 2) (aCons (bin fPlus (bin fIx (dVar 1) (dVar 5)) (dC (.int 1))) (aNil)))) (sSeq (sDrop (dBM .list fApp (dVar 2) (aCons (dVar 8) (aNil)))) (sIf (tB' (bin (fEq false) (bin fMul (dVar 8) (dVar 7)) (dVar 6))) (sDrop (dBM .list fApp (dVar 3) (aCons (bin fPlus (dVar 5) (dC (.int 1))) (aNil)))) (sDrop (dCall (arity 4 F_law_placed) [] (aCons (dVar 4) (aCons (bin fSub (dVar 6) (bin fMul (dVar 8) (dVar 7))) (aCons (dVar 7) (aCons (bin fPlus (dVar 5) (dC (.int 1))) (aNil)))))))))))))
theorem kind_def : F_law_kind = fnF 10 (sSeq (sSet 2 (dLst true (aNil))) (sSeq (sSet 3 (dLst true (aNil))) (sSeq (sSet 4 (dLst true (aNil))) (sSeq (sFor (iRng1 (aCons (dCB fLen (aCons (dVar 1) (aNil))) (aNil))) (gN 5) kB) (sRet (dTup (aCons (dCB fTuple (aCons (dVar 2) (aNil))) (aCons (dCB fTuple (aCons (bin fPlus (dLst false (aCons (dCB fTuple (aCons (dVar 3) (aNil))) (aNil))) (dLc false (iAny (dVar 4)) [9] (gN 9) (tYesD) (dCB fTuple (aCons (bin fIx (dVar 9) (dC (.int 2))) (aNil))))) (aNil))) (aNil))))))))) := rfl
section
variable (as cs : List Int) (b : Int)
def av (k : Int) : Int := as.getD (k - 1).toNat 0
def fr (k : Int) : Int := av as k - av as k / b * b
def PF (n : Nat) (k : Int) : Prop := 1 ≤ k ∧ k ≤ (n : Int) ∧ ¬ av cs k * b < av as k ∧ av as k / b * b = av as k
def PG (n : Nat) (k : Int) : Prop := 1 ≤ k ∧ k ≤ (n : Int) ∧ ¬ av cs k * b < av as k ∧ ¬ av as k / b * b = av as k
def wh (a c : Int) : Int := if c * b < a then c + 1 else a / b
structure KV (n : Nat) (W F : List Int) (ks : List (Int × Nat)) (R : List (List Int)) : Prop where
  w : W = (List.zipWith (wh b) as cs).take n
  fp : F.Pairwise (· < ·)
  fm : ∀ k, k ∈ F ↔ PF as cs b n k
  fl : F.length ≤ n
  ki : KI (fr as b) (PG as cs b n) n ks R
end
theorem KI.congr {fr : Int → Int} {P P' : Int → Prop} {n n' : Nat} {ks : List (Int × Nat)} {R : List (List Int)} (K : KI fr P n ks R) (h : ∀ k, P k ↔ P' k) (hn : n ≤ n') : KI fr P' n' ks R := by
  have e : P = P' := funext fun k => propext (h k)
  subst e
  exact ⟨K.grp, K.nd, K.ix, Nat.le_trans K.kl hn, fun l hl => Nat.le_trans (K.rl l hl) hn⟩
theorem fIx_l {xs : List D} {A : Nat} {x : D} (hx : xs[A]? = some x) (S : Sto) : fIx (.lst xs) (.int (A : Int)) S = .ok x S := by
  have hl : A < xs.length := (List.getElem?_eq_some_iff.mp hx).1
  have a1 : (0 : Int) ≤ A := by omega
  have a2 : (A : Int) < xs.length := by omega
  simp [fIx, seqOf, L2.atI, L2.ixN, a1, a2, hx]
theorem fIx_t {xs : List D} {A : Nat} {x : D} (hx : xs[A]? = some x) (S : Sto) : fIx (.tup xs) (.int (A : Int)) S = .ok x S := by
  have hl : A < xs.length := (List.getElem?_eq_some_iff.mp hx).1
  have a1 : (0 : Int) ≤ A := by omega
  have a2 : (A : Int) < xs.length := by omega
  simp [fIx, seqOf, L2.atI, L2.ixN, a1, a2, hx]
theorem fx0 (x y : D) (S : Sto) : fIx (.tup [x, y]) (.int 0) S = .ok x S := rfl
theorem fx1 (x y : D) (S : Sto) : fIx (.tup [x, y]) (.int 1) S = .ok y S := rfl
abbrev rdD (as : List Int) (b : Int) : D := .lst (as.map fun a => .tup [.int a, .int b])
abbrev tI (l : List Int) : D := .tup (dI l)
theorem kB_eq {as cs : List Int} {b : Int} {n : Nat} {S0 : Sto} {W F : List Int} {ks : List (Int × Nat)} {R : List (List Int)} {z6 z7 z8 z9 : Option D} (hb : 0 < b ∧ b < 1000) (hl : as.length = cs.length) (hn : n < as.length) (h1 : as.length ≤ 100) (V : KV as cs b n W F ks R) :
    ∃ y6 y7 y8 W' F' ks' R', kB [some (rdD as b), some (tI cs), some (.ref S0.length), some (.ref (S0.length + 1)), some (.ref (S0.length + 2)), some (.int (n : Int)), z6, z7, z8, z9] (KS S0 b W F ks R) = .nx [some (rdD as b), some (tI cs), some (.ref S0.length), some (.ref (S0.length + 1)), some (.ref (S0.length + 2)), some (.int (n : Int)), y6, y7, y8, z9] (KS S0 b W' F' ks' R') ∧ KV as cs b (n + 1) W' F' ks' R' := by
  obtain ⟨w, fp, fm, fl, ki⟩ := V
  have hc : n < cs.length := by omega
  have wl : W.length = n := by rw [w, List.length_take, List.length_zipWith]; omega
  have ea : av as ((n : Int) + 1) = as[n] := by
    unfold av
    have : ((n : Int) + 1 - 1).toNat = n := by omega
    rw [this]; simp [List.getD, hn]
  have ec : av cs ((n : Int) + 1) = cs[n] := by
    unfold av
    have : ((n : Int) + 1 - 1).toNat = n := by omega
    rw [this]; simp [List.getD, hc]
  have wt : ∀ x, wh b as[n] cs[n] = x → W ++ [x] = (List.zipWith (wh b) as cs).take (n + 1) := fun x hx => by
    have hz : n < (List.zipWith (wh b) as cs).length := by rw [List.length_zipWith]; omega
    rw [List.take_add_one, ← w, List.getElem?_eq_getElem hz, List.getElem_zipWith, hx]; rfl
  have F1 : ∀ k, PF as cs b (n + 1) k ↔ PF as cs b n k ∨ k = (n : Int) + 1 ∧ ¬ cs[n] * b < as[n] ∧ as[n] / b * b = as[n] := fun k => by
    unfold PF
    constructor
    · rintro ⟨a1, a2, a3, a4⟩
      by_cases hk : k = (n : Int) + 1
      · subst hk
        rw [ea, ec] at *
        exact .inr ⟨rfl, a3, a4⟩
      · exact .inl ⟨a1, by omega, a3, a4⟩
    · rintro (⟨a1, a2, a3, a4⟩ | ⟨rfl, a3, a4⟩)
      · exact ⟨a1, by omega, a3, a4⟩
      · refine ⟨by omega, by omega, ?_, ?_⟩
        · rw [ea, ec]; exact a3
        · rw [ea]; exact a4
  have G1 : ∀ k, PG as cs b (n + 1) k ↔ PG as cs b n k ∨ k = (n : Int) + 1 ∧ ¬ cs[n] * b < as[n] ∧ ¬ as[n] / b * b = as[n] := fun k => by
    unfold PG
    constructor
    · rintro ⟨a1, a2, a3, a4⟩
      by_cases hk : k = (n : Int) + 1
      · subst hk
        rw [ea, ec] at *
        exact .inr ⟨rfl, a3, a4⟩
      · exact .inl ⟨a1, by omega, a3, a4⟩
    · rintro (⟨a1, a2, a3, a4⟩ | ⟨rfl, a3, a4⟩)
      · exact ⟨a1, by omega, a3, a4⟩
      · refine ⟨by omega, by omega, ?_, ?_⟩
        · rw [ea, ec]; exact a3
        · rw [ea]; exact a4
  have ir := fIx_l (xs := as.map fun a => .tup [.int a, .int b]) (A := n) (x := .tup [.int as[n], .int b]) (by simp [hn])
  have ic := fIx_t (xs := dI cs) (A := n) (x := .int cs[n]) (by simp [hc])
  have i0 := fx0 (.int as[n]) (.int b)
  have i1 := fx1 (.int as[n]) (.int b)
  have mb := fun x S => fMulb (x := x) (t := x) hb S
  have dv : ∀ x S, fDiv (.int x) (.int b) S = .ok (.int (x / b)) S := fun x S => if_pos (sm.div (a := 60) (by unfold sm; omega) hb.1 (by decide))
  have aw := fun x => fApp_eq (y := .int x) (ks_w (S0 := S0) (b := b) (W := W) (F := F) (ks := ks) (R := R)) (by rw [List.length_map]; omega)
  have sw := fun x => ks_setw (S0 := S0) (b := b) (W := W) (W' := W ++ [x]) (F := F) (ks := ks) (R := R)
  have ew : ∀ x, dI W ++ [D.int x] = dI (W ++ [x]) := fun x => by simp
  have tw := tyl (ks_w (S0 := S0) (b := b) (W := W) (F := F) (ks := ks) (R := R))
  by_cases c1 : cs[n] * b < as[n]
  · refine ⟨some (.int as[n]), some (.int b), some (.int (as[n] / b)), W ++ [cs[n] + 1], F, ks, R, ?_, wt _ (if_pos c1), fp, fun k => ?_, by omega, ki.congr (fun k => ?_) (by omega)⟩
    · have a1 := aw (cs[n] + 1)
      rw [ew, sw] at a1
      generalize KS S0 b W F ks R = G at *
      generalize KS S0 b (W ++ [cs[n] + 1]) F ks R = G' at *
      generalize as[n] = a at *
      generalize cs[n] = c at *
      clear w fp fm fl ki wl wt F1 G1 aw sw ew hb ea ec
      unfold kB
      walk_at "v"
    · rw [fm, F1]
      exact ⟨.inl, fun h => h.elim id fun h => absurd c1 h.2.1⟩
    · rw [G1]
      exact ⟨.inl, fun h => h.elim id fun h => absurd c1 h.2.1⟩
  · have a1 := aw (as[n] / b)
    rw [ew, sw] at a1
    have wt2 := wt (as[n] / b) (if_neg c1)
    by_cases c2 : as[n] / b * b = as[n]
    · refine ⟨some (.int as[n]), some (.int b), some (.int (as[n] / b)), W ++ [as[n] / b], F ++ [(n : Int) + 1], ks, R, ?_, wt2, ?_, fun k => ?_, by rw [List.length_append]; simp; omega, ki.congr (fun k => ?_) (by omega)⟩
      · have af := fApp_eq (y := .int ((n : Int) + 1)) (ks_f (S0 := S0) (b := b) (W := W ++ [as[n] / b]) (F := F) (ks := ks) (R := R)) (by rw [List.length_map]; omega)
        have ef : dI F ++ [D.int ((n : Int) + 1)] = dI (F ++ [(n : Int) + 1]) := by simp
        rw [ef, ks_setf] at af
        have tf := tyl (ks_f (S0 := S0) (b := b) (W := W ++ [as[n] / b]) (F := F) (ks := ks) (R := R))
        have c2' : (as[n] / b * b = as[n]) = True := eq_true c2
        generalize KS S0 b W F ks R = G at *
        generalize KS S0 b (W ++ [as[n] / b]) F ks R = G' at *
        generalize KS S0 b (W ++ [as[n] / b]) (F ++ [(n : Int) + 1]) ks R = G'' at *
        clear c2 w fp fm fl ki wl wt F1 G1 aw sw ew hb ea ec ef wt2
        generalize as[n] = a at *
        generalize cs[n] = c at *
        unfold kB
        walk_at "v"
      · rw [List.pairwise_append]
        refine ⟨fp, by simp, fun x hx y hy => ?_⟩
        rw [List.mem_singleton.mp hy]
        have := ((fm x).mp hx).2.1
        omega
      · rw [List.mem_append, fm, F1, List.mem_singleton]
        exact ⟨fun h => h.imp id fun h => ⟨h, c1, c2⟩, fun h => h.imp id fun h => h.1⟩
      · rw [G1]
        exact ⟨.inl, fun h => h.elim id fun h => absurd c2 h.2.2⟩
    · obtain ⟨ks', R', pl, ki'⟩ := placed_inv (S0 := S0) (W := W ++ [as[n] / b]) (F := F) (t := as[n] - as[n] / b * b) (k0 := (n : Int) + 1) hb ki (by omega) (fun k hk => by have := hk.2.1; omega) (by unfold fr; rw [ea])
      refine ⟨some (.int as[n]), some (.int b), some (.int (as[n] / b)), W ++ [as[n] / b], F, ks', R', ?_, wt2, fp, fun k => ?_, by omega, ki'.congr (fun k => ?_) (by omega)⟩
      · have c2' : (as[n] / b * b = as[n]) = False := eq_false c2
        generalize KS S0 b W F ks R = G at *
        generalize KS S0 b (W ++ [as[n] / b]) F ks R = G' at *
        generalize KS S0 b (W ++ [as[n] / b]) F ks' R' = G'' at *
        clear c2 w fp fm fl ki wl wt F1 G1 aw sw ew hb ea ec wt2 ki'
        generalize as[n] = a at *
        generalize cs[n] = c at *
        unfold kB
        walk_at "v"
      · rw [fm, F1]
        exact ⟨.inl, fun h => h.elim id fun h => absurd h.2.2 c2⟩
      · rw [G1]
        exact ⟨fun h => h.imp id fun h => ⟨h, c1, c2⟩, fun h => h.imp id fun h => h.1⟩
end K21
end

section
set_option Elab.async false
set_option linter.all false
set_option maxRecDepth 100000
set_option maxHeartbeats 1000000
open Z
local macro_rules | `(tactic| walk_at "z") => `(tactic| simp [fnF_eq, sSeq, sSet, sRet, sIf, sDrop, sNil, sAsg, sPar, sPut, F.then_nx, F.then_rt, F.then_bk, F.then_ct, F.then_ex, F.then_bad, F.then_ite, R.lift_ok, R.lift_ex, R.lift_bad, R.lift_ite, R.bind_ok, R.bind_ex, R.bind_bad, R.bind_ite, F.fin_nx, F.fin_rt, F.fin_ex, F.fin_bad, F.fin_ite, dVar, dC, bin, un, dAnd, dOr, dNot, tB', tAnd', tOr', tNot', dIf, asB_bl, aNil, aCons, dTup, mkT, dLst, mkL, fIx, seqOf, lstOf, L2.atI, L2.ixN, fAdd, fPlus, dSl, oSome, oNone, asI, fSl, fInT, fStr, fIntT, fFmt, dFmt, dJs, fPart, fStarts, fFind, fIsdig, fIsasc, fMulS, fSub, fMul, fLt, fGt, fLe, fGe, fEq, fDiv, fMod, fNeg, fPow, arity, dCall, dCallY, dCallK, noEx, dCB, fGcd, fLen, fMax2, fMin2, fInt, gN, gT, gAll, dIsi, fIsi, isTy, refOk, dIsN, dNotN, dIsB, dNotB, isNon, isBl, sz_lt, sz_le, sRaise, sTry, collapse_const, endX, dXf, dXis, dBM, dBM0, fPop, fApp, fRevM, fIns, fPopAt, tTr, fTr, aStar, dSoSet, sRetN, fTuple, fAbs, tyD, *])
local macro_rules | `(tactic| walk_at "y") => `(tactic| simp [fnF_eq, sSeq, sSet, sRet, sIf, sDrop, sNil, sAsg, sPar, sPut, F.then_nx, F.then_rt, F.then_bk, F.then_ct, F.then_ex, F.then_bad, F.then_ite, R.lift_ok, R.lift_ex, R.lift_bad, R.lift_ite, R.bind_ok, R.bind_ex, R.bind_bad, R.bind_ite, F.fin_nx, F.fin_rt, F.fin_ex, F.fin_bad, F.fin_ite, dVar, dC, bin, un, dAnd, dOr, dNot, tB', tAnd', tOr', tNot', dIf, asB_bl, aNil, aCons, dTup, mkT, dLst, mkL, fIx, seqOf, lstOf, L2.atI, L2.ixN, fAdd, fPlus, dSl, oSome, oNone, asI, fSl, fInT, fStr, fIntT, fFmt, dFmt, dJs, fPart, fStarts, fFind, fIsdig, fIsasc, fMulS, fSub, fMul, fLt, fGt, fLe, fGe, fEq, fDiv, fMod, fNeg, fPow, arity, dCall, dCallY, dCallK, noEx, dCB, fGcd, fLen, fMax2, fMin2, fInt, sFor, iRng1, fRng1, iSeq, asSeq, iAny, asAny, dIsi, fIsi, isTy, refOk, dIsN, dNotN, dIsB, dNotB, isNon, isBl, sz_lt, sz_le, sRaise, sTry, collapse_const, endX, dXf, dXis, dBM, dBM0, fPop, fApp, fRevM, fIns, fPopAt, tTr, fTr, aStar, dSoSet, sRetN, fTuple, fAbs, tyD, *])
local macro_rules | `(tactic| walk_at "v") => `(tactic| simp [fnF_eq, sSeq, sSet, sRet, sIf, sDrop, sNil, sAsg, sPar, sPut, F.then_nx, F.then_rt, F.then_bk, F.then_ct, F.then_ex, F.then_bad, F.then_ite, R.lift_ok, R.lift_ex, R.lift_bad, R.lift_ite, R.bind_ok, R.bind_ex, R.bind_bad, R.bind_ite, F.fin_nx, F.fin_rt, F.fin_ex, F.fin_bad, F.fin_ite, dVar, dC, bin, un, dAnd, dOr, dNot, tB', tAnd', tOr', tNot', dIf, asB_bl, aNil, aCons, dTup, mkT, dLst, mkL, seqOf, lstOf, fAdd, fPlus, dSl, oSome, oNone, asI, fInT, fStr, fIntT, fFmt, dFmt, dJs, fPart, fStarts, fFind, fIsdig, fIsasc, fMulS, fSub, fLt, fGt, fLe, fGe, fEq, fMod, fNeg, fPow, arity, dCall, dCallY, dCallK, noEx, dCB, fGcd, fMax2, fMin2, fInt, gN, gT, gAll, dIsi, fIsi, isTy, refOk, dIsN, dNotN, dIsB, dNotB, isNon, isBl, sz_lt, sz_le, sRaise, sTry, collapse_const, endX, dXf, dXis, dBM, dBM0, tTr, fTr, aStar, sRetN, fAbs, *])
local macro_rules | `(tactic| walk_at "u") => `(tactic| simp [fnF_eq, sSeq, sSet, sRet, sIf, sDrop, sNil, sAsg, sPar, sPut, F.then_nx, F.then_rt, F.then_bk, F.then_ct, F.then_ex, F.then_bad, F.then_ite, R.lift_ok, R.lift_ex, R.lift_bad, R.lift_ite, R.bind_ok, R.bind_ex, R.bind_bad, R.bind_ite, F.fin_nx, F.fin_rt, F.fin_ex, F.fin_bad, F.fin_ite, dVar, dC, bin, un, dAnd, dOr, dNot, tB', tAnd', tOr', tNot', dIf, asB_bl, aNil, aCons, dTup, mkT, dLst, mkL, seqOf, lstOf, fAdd, fPlus, dSl, oSome, oNone, asI, fInT, fStr, fIntT, fFmt, dFmt, dJs, fPart, fStarts, fFind, fIsdig, fIsasc, fMulS, fSub, fLt, fGt, fLe, fGe, fEq, fMod, fNeg, fPow, arity, dCall, dCallY, dCallK, noEx, dCB, fGcd, fMax2, fMin2, fInt, dIsi, fIsi, isTy, refOk, dIsN, dNotN, dIsB, dNotB, isNon, isBl, sz_lt, sz_le, sRaise, sTry, collapse_const, endX, dXf, dXis, dBM, dBM0, tTr, fTr, aStar, sRetN, fAbs, sFor, iAny, iRng1, iEn, *])
local macro_rules | `(tactic| walk_at "t") => `(tactic| simp [fnF_eq, sSeq, sSet, sRet, sIf, sDrop, sNil, sAsg, sPar, sPut, F.then_nx, F.then_rt, F.then_bk, F.then_ct, F.then_ex, F.then_bad, F.then_ite, R.lift_ok, R.lift_ex, R.lift_bad, R.lift_ite, R.bind_ok, R.bind_ex, R.bind_bad, R.bind_ite, F.fin_nx, F.fin_rt, F.fin_ex, F.fin_bad, F.fin_ite, dVar, dC, bin, un, dAnd, dOr, dNot, tB', tAnd', tOr', tNot', dIf, asB_bl, aNil, aCons, dTup, mkT, dLst, mkL, seqOf, lstOf, fAdd, dSl, oSome, oNone, asI, fInT, fStr, fIntT, fFmt, dFmt, dJs, fPart, fStarts, fFind, fIsdig, fIsasc, fMulS, fSub, fLt, fGt, fLe, fGe, fEq, fMod, fNeg, fPow, arity, dCall, dCallY, dCallK, noEx, dCB, fGcd, fMax2, fMin2, fInt, dIsi, fIsi, isTy, refOk, dIsN, dNotN, dIsB, dNotB, isNon, isBl, sz_lt, sz_le, sRaise, sTry, collapse_const, endX, dXf, dXis, dBM, dBM0, tTr, fTr, aStar, sRetN, fAbs, sFor, iAny, iRng1, iEn, *])
namespace K21
def idx (i m : Nat) : List D := (List.range' i m).map fun (k : Nat) => D.int (k : Int)
theorem idx_succ (i m : Nat) : idx i (m + 1) = .int (i : Int) :: idx (i + 1) m := by unfold idx; rw [List.range'_succ]; rfl
theorem rng_idx (n : Nat) : rngD 0 n = idx 0 n := by
  unfold rngD idx
  rw [List.range_eq_range']
  refine List.map_congr_left fun k _ => ?_
  simp
theorem kB_go {as cs : List Int} {b : Int} {S0 : Sto} (hb : 0 < b ∧ b < 1000) (hl : as.length = cs.length) (h1 : as.length ≤ 100) : ∀ (m n : Nat) (W F : List Int) (ks : List (Int × Nat)) (R : List (List Int)) (z5 z6 z7 z8 z9 : Option D), n + m = as.length → KV as cs b n W F ks R →
    ∃ y5 y6 y7 y8 W' F' ks' R', forGo (fun _ => True) (gN 5) kB (idx n m) [some (rdD as b), some (tI cs), some (.ref S0.length), some (.ref (S0.length + 1)), some (.ref (S0.length + 2)), z5, z6, z7, z8, z9] (KS S0 b W F ks R) = .nx [some (rdD as b), some (tI cs), some (.ref S0.length), some (.ref (S0.length + 1)), some (.ref (S0.length + 2)), y5, y6, y7, y8, z9] (KS S0 b W' F' ks' R') ∧ KV as cs b as.length W' F' ks' R'
  | 0, n, W, F, ks, R, z5, z6, z7, z8, z9, hm, V => by
    obtain rfl : n = as.length := by omega
    exact ⟨z5, z6, z7, z8, W, F, ks, R, forGo_nil trivial, V⟩
  | m + 1, n, W, F, ks, R, z5, z6, z7, z8, z9, hm, V => by
    obtain ⟨y6, y7, y8, W1, F1, ks1, R1, e1, V1⟩ := kB_eq (S0 := S0) (z6 := z6) (z7 := z7) (z8 := z8) (z9 := z9) hb hl (by omega : n < as.length) h1 V
    obtain ⟨x5, x6, x7, x8, W2, F2, ks2, R2, e2, V2⟩ := kB_go (S0 := S0) hb hl h1 m (n + 1) W1 F1 ks1 R1 (some (.int (n : Int))) y6 y7 y8 z9 (by omega) V1
    refine ⟨x5, x6, x7, x8, W2, F2, ks2, R2, ?_, V2⟩
    have eg : ∀ u a b c d e f g h i j, (gN 5).run u [a, b, c, d, e, f, g, h, i, j] = some [a, b, c, d, e, some u, g, h, i, j] := fun _ _ _ _ _ _ _ _ _ _ _ => rfl
    rw [idx_succ, forGo, if_pos trivial, eg]
    simp only [e1]
    exact e2
theorem KV.zero {as cs : List Int} {b : Int} : KV as cs b 0 [] [] [] [] := by
  refine ⟨by simp, by simp, fun k => ?_, by simp, ⟨⟨by simp, by simp, fun k hk => ?_⟩, by simp, by simp, by simp, by simp⟩⟩
  · unfold PF; simp; omega
  · unfold PG at hk; omega
def gT2 (G : Sto) (x : D) : D := match x with
  | .lst [_, _, .ref r] => match G[r]? with
    | some (.lst xs) => .tup xs
    | _ => .non
  | _ => .non
abbrev kD (W F : List Int) (gs : List (Int × List Int)) : D := .tup [tI W, .tup (tI F :: gs.map fun e => tI e.2)]
/-- what _law_kind says -/
structure Kd (as cs : List Int) (b : Int) (F : List Int) (gs : List (Int × List Int)) : Prop where
  fp : F.Pairwise (· < ·)
  fm : ∀ k, k ∈ F ↔ PF as cs b as.length k
  fl : F.length ≤ as.length
  gl : gs.length ≤ as.length
  grp : Grp (fr as b) (PG as cs b as.length) gs
  ll : ∀ e ∈ gs, e.2.length ≤ as.length
theorem fTup_ref {n : Nat} {xs : List D} {S : Sto} (h : S[n]? = some (.lst xs)) (hl : xs.length ≤ 1000) : fTuple [.ref n] S = .ok (.tup xs) S := by
  have f : Fit xs.length := of_eq_true (sz_le (by omega))
  simp [fTuple, lstOf, h, mkT, f]
theorem fTup_lst {xs : List D} {S : Sto} (hl : xs.length ≤ 1000) : fTuple [.lst xs] S = .ok (.tup xs) S := by
  have f : Fit xs.length := of_eq_true (sz_le (by omega))
  simp [fTuple, lstOf, mkT, f]
theorem kind_eq {as cs : List Int} {b : Int} {S0 : Sto} (hb : 0 < b ∧ b < 1000) (hl : as.length = cs.length) (h1 : as.length ≤ 100) :
    ∃ F gs T, F_law_kind [rdD as b, tI cs] S0 = .ok (kD (List.zipWith (wh b) as cs) F gs) (S0 ++ T) ∧ Kd as cs b F gs := by
  obtain ⟨y5, y6, y7, y8, W, F, ks, R, lp, V⟩ := kB_go (S0 := S0) hb hl h1 as.length 0 [] [] [] [] none none none none none (by omega) KV.zero
  obtain ⟨w, fp, fm, fl, gr, nd, ix, kl, rl⟩ := V
  have wl : (List.zipWith (wh b) as cs).length = as.length := by rw [List.length_zipWith]; omega
  have hw : W = List.zipWith (wh b) as cs := by rw [w, List.take_of_length_le (by omega)]
  subst hw
  have ll : ∀ e ∈ gsOf ks R, e.2.length ≤ as.length := fun e he => by
    obtain ⟨x, hx, rfl⟩ := List.mem_map.mp he
    have hj := ix x hx
    have : R.getD x.2 [] = R[x.2] := by simp [List.getD, hj]
    show (R.getD x.2 []).length ≤ _
    rw [this]
    exact rl _ (List.getElem_mem hj)
  refine ⟨F, gsOf ks R, .lst (dI (List.zipWith (wh b) as cs)) :: .lst (dI F) :: .lst (ks.map (gD S0.length b)) :: R.map (fun l => .lst (dI l)), ?_, fp, fm, fl, by rw [List.length_map]; exact kl, gr, ll⟩
  have st : S0 ++ [Cell.lst [], Cell.lst [], Cell.lst []] = KS S0 b [] [] [] [] := by unfold KS; simp
  have q := ks_q (S0 := S0) (b := b) (W := List.zipWith (wh b) as cs) (F := F) (ks := ks) (R := R)
  have tw := fTup_ref (ks_w (S0 := S0) (b := b) (W := List.zipWith (wh b) as cs) (F := F) (ks := ks) (R := R)) (by rw [List.length_map]; omega)
  have tf := fTup_ref (ks_f (S0 := S0) (b := b) (W := List.zipWith (wh b) as cs) (F := F) (ks := ks) (R := R)) (by rw [List.length_map]; omega)
  have ln : fLen [tI cs] (KS S0 b [] [] [] []) = .ok (.int (as.length : Int)) (KS S0 b [] [] [] []) := by simp [fLen, seqOf, hl]
  have rg : fRng1 [.int (as.length : Int)] (KS S0 b [] [] [] []) = .ok (idx 0 as.length, fun _ => True) (KS S0 b [] [] [] []) := by
    rw [← rng_idx]
    exact fRng1_eq rfl (by omega)
  have an := asAny_ref q
  have lc : ∀ env : Env, env[4]? = some (some (.ref (S0.length + 2))) → env.length = 10 → dLc false (iAny (dVar 4)) [9] (gN 9) (tYesD) (dCB fTuple (aCons (bin fIx (dVar 9) (dC (.int 2))) (aNil))) env (KS S0 b (List.zipWith (wh b) as cs) F ks R) = .ok (.lst ((gsOf ks R).map fun e => tI e.2)) (KS S0 b (List.zipWith (wh b) as cs) F ks R) := fun env he hen => by
    have src : iAny (dVar 4) env (KS S0 b (List.zipWith (wh b) as cs) F ks R) = .ok (ks.map (gD S0.length b), fun S => S[S0.length + 2]? = some (.lst (ks.map (gD S0.length b)))) (KS S0 b (List.zipWith (wh b) as cs) F ks R) := by
      simp [iAny, dVar, he, Z.R.bind_ok, an]
    rw [dLc_map (gT2 (KS S0 b (List.zipWith (wh b) as cs) F ks R)) src q (by rw [List.length_map]; omega) fun x hx => ?_]
    · have hm : (ks.map (gD S0.length b)).map (gT2 (KS S0 b (List.zipWith (wh b) as cs) F ks R)) = (gsOf ks R).map fun e => tI e.2 := by
        rw [List.map_map, List.map_map]
        refine List.map_congr_left fun e he => ?_
        have hj := ix e he
        have r := ks_r (S0 := S0) (b := b) (W := List.zipWith (wh b) as cs) (F := F) (ks := ks) (R := R) hj
        have : R.getD e.2 [] = R[e.2] := by simp [List.getD, hj]
        show gT2 _ (gD S0.length b e) = tI (R.getD e.2 [])
        rw [this]
        simp only [gT2, gD, r]
      rw [hm]; rfl
    · obtain ⟨e, he2, rfl⟩ := List.mem_map.mp hx
      have hj := ix e he2
      have r := ks_r (S0 := S0) (b := b) (W := List.zipWith (wh b) as cs) (F := F) (ks := ks) (R := R) hj
      have rj := rl _ (List.getElem_mem hj)
      have ft := fTup_ref r (by rw [List.length_map]; omega)
      have e9 : (wipeE env [9])[9]? = some none := by simp [wipeE, hen]
      refine ⟨(wipeE env [9]).set 9 (some (gD S0.length b e)), ?_, ?_⟩
      · simp [gN, Tg.run, wipeE, hen]
      · have e10 : ((wipeE env [9]).set 9 (some (gD S0.length b e)))[9]? = some (some (gD S0.length b e)) := by simp [wipeE, hen]
        have G2 := g2 S0.length b e (KS S0 b (List.zipWith (wh b) as cs) F ks R)
        simp only [dCB, aCons, aNil, bin, dVar, dC, e10, Z.R.bind_ok, G2, ft]
        simp only [gT2, gD, r]
  have kS : KS S0 b (List.zipWith (wh b) as cs) F ks R = S0 ++ (.lst (dI (List.zipWith (wh b) as cs)) :: .lst (dI F) :: .lst (ks.map (gD S0.length b)) :: R.map fun l => .lst (dI l)) := rfl
  rw [← kS]
  have e9 := lc [some (rdD as b), some (tI cs), some (.ref S0.length), some (.ref (S0.length + 1)), some (.ref (S0.length + 2)), y5, y6, y7, y8, none] rfl rfl
  have ft2 := fTup_lst (xs := tI F :: (gsOf ks R).map fun e => tI e.2) (S := KS S0 b (List.zipWith (wh b) as cs) F ks R) (by simp only [List.length_cons, List.length_map]; omega)
  have pl : fPlus (.lst [tI F]) (.lst ((gsOf ks R).map fun e => tI e.2)) (KS S0 b (List.zipWith (wh b) as cs) F ks R) = .ok (.lst (tI F :: (gsOf ks R).map fun e => tI e.2)) (KS S0 b (List.zipWith (wh b) as cs) F ks R) := by
    have f : Fit (ks.length + 1) := of_eq_true (sz_le (by omega))
    simp [fPlus, mkL, ownOf, f]
  show _ = Z.R.ok (D.tup [tI (List.zipWith (wh b) as cs), D.tup (tI F :: (gsOf ks R).map fun e => tI e.2)]) _
  rw [kind_def]
  generalize dLc false (iAny (dVar 4)) [9] (gN 9) (tYesD) (dCB fTuple (aCons (bin fIx (dVar 9) (dC (.int 2))) (aNil))) = LC at *
  clear lc q kS nd ix kl rl gr fm fl fp w wl an ll
  generalize (gsOf ks R).map (fun e => tI e.2) = gg at *
  generalize KS S0 b (List.zipWith (wh b) as cs) F ks R = G at *
  generalize hG0 : KS S0 b [] [] [] [] = G0 at *
  clear hG0 hl h1 hb
  walk_at "t"
end K21
end

section
set_option Elab.async false
set_option linter.all false
set_option maxRecDepth 100000
set_option maxHeartbeats 1000000
open Z
local macro_rules | `(tactic| walk_at "z") => `(tactic| simp [fnF_eq, sSeq, sSet, sRet, sIf, sDrop, sNil, sAsg, sPar, sPut, F.then_nx, F.then_rt, F.then_bk, F.then_ct, F.then_ex, F.then_bad, F.then_ite, R.lift_ok, R.lift_ex, R.lift_bad, R.lift_ite, R.bind_ok, R.bind_ex, R.bind_bad, R.bind_ite, F.fin_nx, F.fin_rt, F.fin_ex, F.fin_bad, F.fin_ite, dVar, dC, bin, un, dAnd, dOr, dNot, tB', tAnd', tOr', tNot', dIf, asB_bl, aNil, aCons, dTup, mkT, dLst, mkL, fIx, seqOf, lstOf, L2.atI, L2.ixN, fAdd, fPlus, dSl, oSome, oNone, asI, fSl, fInT, fStr, fIntT, fFmt, dFmt, dJs, fPart, fStarts, fFind, fIsdig, fIsasc, fMulS, fSub, fMul, fLt, fGt, fLe, fGe, fEq, fDiv, fMod, fNeg, fPow, arity, dCall, dCallY, dCallK, noEx, dCB, fGcd, fLen, fMax2, fMin2, fInt, gN, gT, gAll, dIsi, fIsi, isTy, refOk, dIsN, dNotN, dIsB, dNotB, isNon, isBl, sz_lt, sz_le, sRaise, sTry, collapse_const, endX, dXf, dXis, dBM, dBM0, fPop, fApp, fRevM, fIns, fPopAt, tTr, fTr, aStar, dSoSet, sRetN, fTuple, fAbs, tyD, *])
local macro_rules | `(tactic| walk_at "y") => `(tactic| simp [fnF_eq, sSeq, sSet, sRet, sIf, sDrop, sNil, sAsg, sPar, sPut, F.then_nx, F.then_rt, F.then_bk, F.then_ct, F.then_ex, F.then_bad, F.then_ite, R.lift_ok, R.lift_ex, R.lift_bad, R.lift_ite, R.bind_ok, R.bind_ex, R.bind_bad, R.bind_ite, F.fin_nx, F.fin_rt, F.fin_ex, F.fin_bad, F.fin_ite, dVar, dC, bin, un, dAnd, dOr, dNot, tB', tAnd', tOr', tNot', dIf, asB_bl, aNil, aCons, dTup, mkT, dLst, mkL, fIx, seqOf, lstOf, L2.atI, L2.ixN, fAdd, fPlus, dSl, oSome, oNone, asI, fSl, fInT, fStr, fIntT, fFmt, dFmt, dJs, fPart, fStarts, fFind, fIsdig, fIsasc, fMulS, fSub, fMul, fLt, fGt, fLe, fGe, fEq, fDiv, fMod, fNeg, fPow, arity, dCall, dCallY, dCallK, noEx, dCB, fGcd, fLen, fMax2, fMin2, fInt, sFor, iRng1, fRng1, iSeq, asSeq, iAny, asAny, dIsi, fIsi, isTy, refOk, dIsN, dNotN, dIsB, dNotB, isNon, isBl, sz_lt, sz_le, sRaise, sTry, collapse_const, endX, dXf, dXis, dBM, dBM0, fPop, fApp, fRevM, fIns, fPopAt, tTr, fTr, aStar, dSoSet, sRetN, fTuple, fAbs, tyD, *])
local macro_rules | `(tactic| walk_at "v") => `(tactic| simp [fnF_eq, sSeq, sSet, sRet, sIf, sDrop, sNil, sAsg, sPar, sPut, F.then_nx, F.then_rt, F.then_bk, F.then_ct, F.then_ex, F.then_bad, F.then_ite, R.lift_ok, R.lift_ex, R.lift_bad, R.lift_ite, R.bind_ok, R.bind_ex, R.bind_bad, R.bind_ite, F.fin_nx, F.fin_rt, F.fin_ex, F.fin_bad, F.fin_ite, dVar, dC, bin, un, dAnd, dOr, dNot, tB', tAnd', tOr', tNot', dIf, asB_bl, aNil, aCons, dTup, mkT, dLst, mkL, seqOf, lstOf, fAdd, fPlus, dSl, oSome, oNone, asI, fInT, fStr, fIntT, fFmt, dFmt, dJs, fPart, fStarts, fFind, fIsdig, fIsasc, fMulS, fSub, fLt, fGt, fLe, fGe, fEq, fMod, fNeg, fPow, arity, dCall, dCallY, dCallK, noEx, dCB, fGcd, fMax2, fMin2, fInt, gN, gT, gAll, dIsi, fIsi, isTy, refOk, dIsN, dNotN, dIsB, dNotB, isNon, isBl, sz_lt, sz_le, sRaise, sTry, collapse_const, endX, dXf, dXis, dBM, dBM0, tTr, fTr, aStar, sRetN, fAbs, *])
local macro_rules | `(tactic| walk_at "u") => `(tactic| simp [fnF_eq, sSeq, sSet, sRet, sIf, sDrop, sNil, sAsg, sPar, sPut, F.then_nx, F.then_rt, F.then_bk, F.then_ct, F.then_ex, F.then_bad, F.then_ite, R.lift_ok, R.lift_ex, R.lift_bad, R.lift_ite, R.bind_ok, R.bind_ex, R.bind_bad, R.bind_ite, F.fin_nx, F.fin_rt, F.fin_ex, F.fin_bad, F.fin_ite, dVar, dC, bin, un, dAnd, dOr, dNot, tB', tAnd', tOr', tNot', dIf, asB_bl, aNil, aCons, dTup, mkT, dLst, mkL, seqOf, lstOf, fAdd, fPlus, dSl, oSome, oNone, asI, fInT, fStr, fIntT, fFmt, dFmt, dJs, fPart, fStarts, fFind, fIsdig, fIsasc, fMulS, fSub, fLt, fGt, fLe, fGe, fEq, fMod, fNeg, fPow, arity, dCall, dCallY, dCallK, noEx, dCB, fGcd, fMax2, fMin2, fInt, dIsi, fIsi, isTy, refOk, dIsN, dNotN, dIsB, dNotB, isNon, isBl, sz_lt, sz_le, sRaise, sTry, collapse_const, endX, dXf, dXis, dBM, dBM0, tTr, fTr, aStar, sRetN, fAbs, sFor, iAny, iRng1, iEn, *])
local macro_rules | `(tactic| walk_at "t") => `(tactic| simp [fnF_eq, sSeq, sSet, sRet, sIf, sDrop, sNil, sAsg, sPar, sPut, F.then_nx, F.then_rt, F.then_bk, F.then_ct, F.then_ex, F.then_bad, F.then_ite, R.lift_ok, R.lift_ex, R.lift_bad, R.lift_ite, R.bind_ok, R.bind_ex, R.bind_bad, R.bind_ite, F.fin_nx, F.fin_rt, F.fin_ex, F.fin_bad, F.fin_ite, dVar, dC, bin, un, dAnd, dOr, dNot, tB', tAnd', tOr', tNot', dIf, asB_bl, aNil, aCons, dTup, mkT, dLst, mkL, seqOf, lstOf, fAdd, dSl, oSome, oNone, asI, fInT, fStr, fIntT, fFmt, dFmt, dJs, fPart, fStarts, fFind, fIsdig, fIsasc, fMulS, fSub, fLt, fGt, fLe, fGe, fEq, fMod, fNeg, fPow, arity, dCall, dCallY, dCallK, noEx, dCB, fGcd, fMax2, fMin2, fInt, dIsi, fIsi, isTy, refOk, dIsN, dNotN, dIsB, dNotB, isNon, isBl, sz_lt, sz_le, sRaise, sTry, collapse_const, endX, dXf, dXis, dBM, dBM0, tTr, fTr, aStar, sRetN, fAbs, sFor, iAny, iRng1, iEn, *])
namespace K21
noncomputable def pB : SDen := (sIf (tB' (bin (fInT false) (dVar 1) (dVar 5))) (sRet (bin fPlus (bin fMul (dC (.int 2)) (bin fIx (dVar 2) (bin fSub (dVar 1) (dC (.int 1))))) (dIf (tB' (bin fGt (dVar 4) (dC (.int 0)))) (dC (.int 1)) (dC (.int 0))))) (sNil))
theorem place_def : Fplace_of = fnF 6 (sSeq (sAsg (gT [gN 2, gN 3]) (dVar 0)) (sSeq (sFor (iEn 0 (dVar 3)) (gT [gN 4, gN 5]) pB) (sRet (dC .non)))) := rfl
theorem flatA_dI : ∀ l : List Int, flatA (dI l) = some (l.map L2.V.int)
  | [] => rfl
  | x :: l => by
    show (flatD (.int x)).bind _ = _
    rw [flatA_dI l]; rfl
theorem inV_int (k : Int) : ∀ l : List Int, L2.inV (.int k) (l.map L2.V.int) = decide (k ∈ l)
  | [] => rfl
  | x :: l => by
    have ih := inV_int k l
    unfold L2.inV at ih ⊢
    rw [List.map_cons, List.any_cons, ih]
    by_cases h : x = k
    · subst h; simp [L2.eqV]
    · have h' : ¬ k = x := fun e => h e.symm
      simp [L2.eqV, h, h']
theorem in_t (neg : Bool) (k : Int) (l : List Int) (S : Sto) : fInT neg (.int k) (tI l) S = .ok (.bl (if neg then !decide (k ∈ l) else decide (k ∈ l))) S := by
  simp only [fInT, fIn, seqOf, flatD, flatA_dI, inV_int]
abbrev gE (j : Int) (l : List Int) : D := .tup [.int j, tI l]
section
variable {q W' gsD : D} {k w : Int} {y4 y5 : Option D} {S : Sto}
theorem pB_miss {j : Int} {l : List Int} {xs : List D} (h : k ∉ l) : forGo (fun _ => True) (gT [gN 4, gN 5]) pB (gE j l :: xs) [some q, some (.int k), some W', some gsD, y4, y5] S = forGo (fun _ => True) (gT [gN 4, gN 5]) pB xs [some q, some (.int k), some W', some gsD, some (.int j), some (tI l)] S := by
  have eg : ∀ a b c d e f, (gT [gN 4, gN 5]).run (gE j l) [a, b, c, d, e, f] = some [a, b, c, d, some (.int j), some (tI l)] := fun _ _ _ _ _ _ => rfl
  have e1 := in_t false k l S
  have d : decide (k ∈ l) = false := decide_eq_false h
  rw [d] at e1
  have eb : pB [some q, some (.int k), some W', some gsD, some (.int j), some (tI l)] S = .nx [some q, some (.int k), some W', some gsD, some (.int j), some (tI l)] S := by
    clear h d
    unfold pB
    simp [sIf, tB', bin, dVar, sNil, R.bind_ok, R.lift_ok, asB_bl, e1]
  rw [forGo, if_pos trivial, eg]
  simp only [eb]
theorem pB_hit {j : Int} {l : List Int} {xs : List D} (h : k ∈ l) (hw : fIx W' (.int (k - 1)) S = .ok (.int w) S) : forGo (fun _ => True) (gT [gN 4, gN 5]) pB (gE j l :: xs) [some q, some (.int k), some W', some gsD, y4, y5] S = .rt (.int (2 * w + if 0 < j then 1 else 0)) S := by
  have eg : ∀ a b c d e f, (gT [gN 4, gN 5]).run (gE j l) [a, b, c, d, e, f] = some [a, b, c, d, some (.int j), some (tI l)] := fun _ _ _ _ _ _ => rfl
  have e1 := in_t false k l S
  have d : decide (k ∈ l) = true := decide_eq_true h
  rw [d] at e1
  have m : fMul (.int 2) (.int w) S = .ok (.int (2 * w)) S := if_pos (.inl (.inl (by decide)))
  have eb : pB [some q, some (.int k), some W', some gsD, some (.int j), some (tI l)] S = .rt (.int (2 * w + if 0 < j then 1 else 0)) S := by
    clear h d
    unfold pB
    by_cases hj : 0 < j <;> simp [sIf, sRet, tB', bin, dIf, dC, dVar, sNil, R.bind_ok, R.lift_ok, asB_bl, fSub, fPlus, fGt, e1, hw, m, hj]
  rw [forGo, if_pos trivial, eg]
  simp only [eb]
theorem pB_none : ∀ (gs : List (Int × List Int)) (j : Int) (y4 y5 : Option D), (∀ e ∈ gs, k ∉ e.2) → ∃ y4' y5', forGo (fun _ => True) (gT [gN 4, gN 5]) pB (enuD j (gs.map fun e => tI e.2)) [some q, some (.int k), some W', some gsD, y4, y5] S = .nx [some q, some (.int k), some W', some gsD, y4', y5'] S
  | [], j, y4, y5, _ => ⟨y4, y5, by rw [List.map_nil, enuD]; exact forGo_nil trivial⟩
  | e :: gs, j, y4, y5, h => by
    obtain ⟨a, b, ih⟩ := pB_none gs (j + 1) (some (.int j)) (some (tI e.2)) fun x hx => h x (List.mem_cons_of_mem _ hx)
    exact ⟨a, b, by rw [List.map_cons, enuD, pB_miss (h e (by simp)), ih]⟩
theorem pB_some (hw : fIx W' (.int (k - 1)) S = .ok (.int w) S) : ∀ (gs : List (Int × List Int)) (j : Int) (y4 y5 : Option D), 0 < j → (∃ e ∈ gs, k ∈ e.2) → forGo (fun _ => True) (gT [gN 4, gN 5]) pB (enuD j (gs.map fun e => tI e.2)) [some q, some (.int k), some W', some gsD, y4, y5] S = .rt (.int (2 * w + 1)) S
  | [], j, y4, y5, _, h => by obtain ⟨e, he, _⟩ := h; cases he
  | e :: gs, j, y4, y5, hj, h => by
    rw [List.map_cons, enuD]
    by_cases hk : k ∈ e.2
    · rw [pB_hit hk hw, if_pos hj]
    · rw [pB_miss hk]
      refine pB_some hw gs (j + 1) _ _ (by omega) ?_
      obtain ⟨x, hx, q⟩ := h
      rcases List.mem_cons.mp hx with rfl | hx
      · exact absurd q hk
      · exact ⟨x, hx, q⟩
end
theorem Kd.inG {as cs : List Int} {b : Int} {F : List Int} {gs : List (Int × List Int)} (K : Kd as cs b F gs) {k : Int} : (∃ e ∈ gs, k ∈ e.2) ↔ PG as cs b as.length k := by
  constructor
  · rintro ⟨e, he, hk⟩
    exact (((K.grp.mem e he).2.2 k).mp hk).1
  · intro h
    obtain ⟨e, he, q⟩ := K.grp.all k h
    exact ⟨e, he, ((K.grp.mem e he).2.2 k).mpr ⟨h, q⟩⟩
theorem place_of_eq {as cs : List Int} {b : Int} {F : List Int} {gs : List (Int × List Int)} {i : Nat} {S : Sto} (K : Kd as cs b F gs) (hl : as.length = cs.length) (hi : i < as.length) (hc : i < cs.length) :
    Fplace_of [kD (List.zipWith (wh b) as cs) F gs, .int ((i : Int) + 1)] S = .ok (if cs[i] * b < as[i] then .non else .int (2 * (as[i] / b) + if as[i] / b * b = as[i] then 0 else 1)) S := by
  have ea : av as ((i : Int) + 1) = as[i] := by
    unfold av
    have : ((i : Int) + 1 - 1).toNat = i := by omega
    rw [this]; simp [List.getD, hi]
  have ec : av cs ((i : Int) + 1) = cs[i] := by
    unfold av
    have : ((i : Int) + 1 - 1).toNat = i := by omega
    rw [this]; simp [List.getD, hc]
  have pf : ((i : Int) + 1) ∈ F ↔ ¬ cs[i] * b < as[i] ∧ as[i] / b * b = as[i] := by
    rw [K.fm]; unfold PF; rw [ea, ec]
    exact ⟨fun h => h.2.2, fun h => ⟨by omega, by omega, h⟩⟩
  have pg : (∃ e ∈ gs, ((i : Int) + 1) ∈ e.2) ↔ ¬ cs[i] * b < as[i] ∧ ¬ as[i] / b * b = as[i] := by
    rw [K.inG]; unfold PG; rw [ea, ec]
    exact ⟨fun h => h.2.2, fun h => ⟨by omega, by omega, h⟩⟩
  have hw : fIx (tI (List.zipWith (wh b) as cs)) (.int ((i : Int) + 1 - 1)) S = .ok (.int (wh b as[i] cs[i])) S := by
    have e : (i : Int) + 1 - 1 = i := by omega
    rw [e]
    refine fIx_t ?_ S
    have hz : i < (List.zipWith (wh b) as cs).length := by rw [List.length_zipWith]; omega
    rw [List.getElem?_map, List.getElem?_eq_getElem hz, List.getElem_zipWith]; rfl
  have e1 : (0 : Int) + 1 = 1 := rfl
  generalize hq : kD (List.zipWith (wh b) as cs) F gs = q at *
  have asg : (gT [gN 2, gN 3]).run q [some q, some (.int ((i : Int) + 1)), none, none, none, none] = some [some q, some (.int ((i : Int) + 1)), some (tI (List.zipWith (wh b) as cs)), some (.tup (tI F :: gs.map fun e => tI e.2)), none, none] := by subst hq; rfl
  rw [place_def]
  by_cases c1 : cs[i] * b < as[i]
  · rw [if_pos c1]
    have n1 : ((i : Int) + 1) ∉ F := fun h => (pf.mp h).1 c1
    have n2 : ∀ e ∈ gs, ((i : Int) + 1) ∉ e.2 := fun e he h => (pg.mp ⟨e, he, h⟩).1 c1
    obtain ⟨a, c, lp⟩ := pB_none (q := q) (W' := tI (List.zipWith (wh b) as cs)) (gsD := .tup (tI F :: gs.map fun e => tI e.2)) (S := S) gs (0 + 1) (some (.int 0)) (some (tI F)) n2
    rw [← pB_miss (y4 := none) (y5 := none) n1] at lp
    generalize hg : (gE 0 F :: enuD (0 + 1) (gs.map fun e => tI e.2)) = items at *
    have en : enuD 0 (tI F :: gs.map fun e => tI e.2) = items := by rw [← hg]; rfl
    clear hg n1 n2 pf pg hw c1 e1 ea ec hl hi hc K hq
    walk_at "u"
  · rw [if_neg c1]
    by_cases c2 : as[i] / b * b = as[i]
    · have lp := pB_hit (q := q) (gsD := .tup (tI F :: gs.map fun e => tI e.2)) (y4 := none) (y5 := none) (j := 0) (xs := enuD (0 + 1) (gs.map fun e => tI e.2)) (pf.mpr ⟨c1, c2⟩) hw
      have v : wh b as[i] cs[i] = as[i] / b := if_neg c1
      rw [if_pos c2]
      rw [v] at lp
      have z : ¬ (0 : Int) < 0 := by decide
      rw [if_neg z] at lp
      generalize hg : (gE 0 F :: enuD (0 + 1) (gs.map fun e => tI e.2)) = items at *
      have en : enuD 0 (tI F :: gs.map fun e => tI e.2) = items := by rw [← hg]; rfl
      clear hg pf pg hw c1 c2 e1 ea ec v z hq K
      generalize as[i] = aa at *
      walk_at "u"
    · have n1 : ((i : Int) + 1) ∉ F := fun h => c2 (pf.mp h).2
      have lp := pB_some (q := q) (gsD := .tup (tI F :: gs.map fun e => tI e.2)) hw gs (0 + 1) (some (.int 0)) (some (tI F)) (by decide) (pg.mpr ⟨c1, c2⟩)
      rw [← pB_miss (y4 := none) (y5 := none) n1] at lp
      have v : wh b as[i] cs[i] = as[i] / b := if_neg c1
      rw [if_neg c2]
      rw [v] at lp
      generalize hg : (gE 0 F :: enuD (0 + 1) (gs.map fun e => tI e.2)) = items at *
      have en : enuD 0 (tI F :: gs.map fun e => tI e.2) = items := by rw [← hg]; rfl
      clear hg pf pg hw c1 c2 e1 ea ec v n1 hq K
      generalize as[i] = aa at *
      walk_at "u"
end K21
end

section
set_option Elab.async false
set_option linter.all false
set_option maxRecDepth 100000
set_option maxHeartbeats 1000000
open Z
local macro_rules | `(tactic| walk_at "z") => `(tactic| simp [fnF_eq, sSeq, sSet, sRet, sIf, sDrop, sNil, sAsg, sPar, sPut, F.then_nx, F.then_rt, F.then_bk, F.then_ct, F.then_ex, F.then_bad, F.then_ite, R.lift_ok, R.lift_ex, R.lift_bad, R.lift_ite, R.bind_ok, R.bind_ex, R.bind_bad, R.bind_ite, F.fin_nx, F.fin_rt, F.fin_ex, F.fin_bad, F.fin_ite, dVar, dC, bin, un, dAnd, dOr, dNot, tB', tAnd', tOr', tNot', dIf, asB_bl, aNil, aCons, dTup, mkT, dLst, mkL, fIx, seqOf, lstOf, L2.atI, L2.ixN, fAdd, fPlus, dSl, oSome, oNone, asI, fSl, fInT, fStr, fIntT, fFmt, dFmt, dJs, fPart, fStarts, fFind, fIsdig, fIsasc, fMulS, fSub, fMul, fLt, fGt, fLe, fGe, fEq, fDiv, fMod, fNeg, fPow, arity, dCall, dCallY, dCallK, noEx, dCB, fGcd, fLen, fMax2, fMin2, fInt, gN, gT, gAll, dIsi, fIsi, isTy, refOk, dIsN, dNotN, dIsB, dNotB, isNon, isBl, sz_lt, sz_le, sRaise, sTry, collapse_const, endX, dXf, dXis, dBM, dBM0, fPop, fApp, fRevM, fIns, fPopAt, tTr, fTr, aStar, dSoSet, sRetN, fTuple, fAbs, tyD, *])
local macro_rules | `(tactic| walk_at "y") => `(tactic| simp [fnF_eq, sSeq, sSet, sRet, sIf, sDrop, sNil, sAsg, sPar, sPut, F.then_nx, F.then_rt, F.then_bk, F.then_ct, F.then_ex, F.then_bad, F.then_ite, R.lift_ok, R.lift_ex, R.lift_bad, R.lift_ite, R.bind_ok, R.bind_ex, R.bind_bad, R.bind_ite, F.fin_nx, F.fin_rt, F.fin_ex, F.fin_bad, F.fin_ite, dVar, dC, bin, un, dAnd, dOr, dNot, tB', tAnd', tOr', tNot', dIf, asB_bl, aNil, aCons, dTup, mkT, dLst, mkL, fIx, seqOf, lstOf, L2.atI, L2.ixN, fAdd, fPlus, dSl, oSome, oNone, asI, fSl, fInT, fStr, fIntT, fFmt, dFmt, dJs, fPart, fStarts, fFind, fIsdig, fIsasc, fMulS, fSub, fMul, fLt, fGt, fLe, fGe, fEq, fDiv, fMod, fNeg, fPow, arity, dCall, dCallY, dCallK, noEx, dCB, fGcd, fLen, fMax2, fMin2, fInt, sFor, iRng1, fRng1, iSeq, asSeq, iAny, asAny, dIsi, fIsi, isTy, refOk, dIsN, dNotN, dIsB, dNotB, isNon, isBl, sz_lt, sz_le, sRaise, sTry, collapse_const, endX, dXf, dXis, dBM, dBM0, fPop, fApp, fRevM, fIns, fPopAt, tTr, fTr, aStar, dSoSet, sRetN, fTuple, fAbs, tyD, *])
local macro_rules | `(tactic| walk_at "v") => `(tactic| simp [fnF_eq, sSeq, sSet, sRet, sIf, sDrop, sNil, sAsg, sPar, sPut, F.then_nx, F.then_rt, F.then_bk, F.then_ct, F.then_ex, F.then_bad, F.then_ite, R.lift_ok, R.lift_ex, R.lift_bad, R.lift_ite, R.bind_ok, R.bind_ex, R.bind_bad, R.bind_ite, F.fin_nx, F.fin_rt, F.fin_ex, F.fin_bad, F.fin_ite, dVar, dC, bin, un, dAnd, dOr, dNot, tB', tAnd', tOr', tNot', dIf, asB_bl, aNil, aCons, dTup, mkT, dLst, mkL, seqOf, lstOf, fAdd, fPlus, dSl, oSome, oNone, asI, fInT, fStr, fIntT, fFmt, dFmt, dJs, fPart, fStarts, fFind, fIsdig, fIsasc, fMulS, fSub, fLt, fGt, fLe, fGe, fEq, fMod, fNeg, fPow, arity, dCall, dCallY, dCallK, noEx, dCB, fGcd, fMax2, fMin2, fInt, gN, gT, gAll, dIsi, fIsi, isTy, refOk, dIsN, dNotN, dIsB, dNotB, isNon, isBl, sz_lt, sz_le, sRaise, sTry, collapse_const, endX, dXf, dXis, dBM, dBM0, tTr, fTr, aStar, sRetN, fAbs, *])
local macro_rules | `(tactic| walk_at "u") => `(tactic| simp [fnF_eq, sSeq, sSet, sRet, sIf, sDrop, sNil, sAsg, sPar, sPut, F.then_nx, F.then_rt, F.then_bk, F.then_ct, F.then_ex, F.then_bad, F.then_ite, R.lift_ok, R.lift_ex, R.lift_bad, R.lift_ite, R.bind_ok, R.bind_ex, R.bind_bad, R.bind_ite, F.fin_nx, F.fin_rt, F.fin_ex, F.fin_bad, F.fin_ite, dVar, dC, bin, un, dAnd, dOr, dNot, tB', tAnd', tOr', tNot', dIf, asB_bl, aNil, aCons, dTup, mkT, dLst, mkL, seqOf, lstOf, fAdd, fPlus, dSl, oSome, oNone, asI, fInT, fStr, fIntT, fFmt, dFmt, dJs, fPart, fStarts, fFind, fIsdig, fIsasc, fMulS, fSub, fLt, fGt, fLe, fGe, fEq, fMod, fNeg, fPow, arity, dCall, dCallY, dCallK, noEx, dCB, fGcd, fMax2, fMin2, fInt, dIsi, fIsi, isTy, refOk, dIsN, dNotN, dIsB, dNotB, isNon, isBl, sz_lt, sz_le, sRaise, sTry, collapse_const, endX, dXf, dXis, dBM, dBM0, tTr, fTr, aStar, sRetN, fAbs, sFor, iAny, iRng1, iEn, *])
local macro_rules | `(tactic| walk_at "t") => `(tactic| simp [fnF_eq, sSeq, sSet, sRet, sIf, sDrop, sNil, sAsg, sPar, sPut, F.then_nx, F.then_rt, F.then_bk, F.then_ct, F.then_ex, F.then_bad, F.then_ite, R.lift_ok, R.lift_ex, R.lift_bad, R.lift_ite, R.bind_ok, R.bind_ex, R.bind_bad, R.bind_ite, F.fin_nx, F.fin_rt, F.fin_ex, F.fin_bad, F.fin_ite, dVar, dC, bin, un, dAnd, dOr, dNot, tB', tAnd', tOr', tNot', dIf, asB_bl, aNil, aCons, dTup, mkT, dLst, mkL, seqOf, lstOf, fAdd, dSl, oSome, oNone, asI, fInT, fStr, fIntT, fFmt, dFmt, dJs, fPart, fStarts, fFind, fIsdig, fIsasc, fMulS, fSub, fLt, fGt, fLe, fGe, fEq, fMod, fNeg, fPow, arity, dCall, dCallY, dCallK, noEx, dCB, fGcd, fMax2, fMin2, fInt, dIsi, fIsi, isTy, refOk, dIsN, dNotN, dIsB, dNotB, isNon, isBl, sz_lt, sz_le, sRaise, sTry, collapse_const, endX, dXf, dXis, dBM, dBM0, tTr, fTr, aStar, sRetN, fAbs, sFor, iAny, iRng1, iEn, *])
namespace K21
noncomputable def sB (n : Nat) : SDen := (sIf (tNot' (tB' (dCall (arity 2 (F_law_same n)) [] (aCons (bin fIx (dVar 0) (dVar 2)) (aCons (bin fIx (dVar 1) (dVar 2)) (aNil)))))) (sRet (dC (.bl false))) (sNil))
theorem same_def (n : Nat) : F_law_same (n + 1) = fnF 3 (sSeq (sIf (tB' (dIsi .tup (dVar 1))) (sSeq (sIf (tOr' (tNot' (tB' (dIsi .tup (dVar 0)))) (tB' (bin (fEq true) (dCB fLen (aCons (dVar 0) (aNil))) (dCB fLen (aCons (dVar 1) (aNil)))))) (sRet (dC (.bl false))) (sNil)) (sSeq (sFor (iRng1 (aCons (dCB fLen (aCons (dVar 1) (aNil))) (aNil))) (gN 2) (sB n)) (sRet (dC (.bl true))))) (sNil)) (sSeq (sIf (tB' (dIsi .str (dVar 1))) (sRet (dAnd (dIsi .str (dVar 0)) (bin (fEq false) (dVar 0) (dVar 1)))) (sNil)) (sSeq (sIf (tB' (dIsN (dVar 1))) (sRet (dIsN (dVar 0))) (sNil)) (sRet (dAnd (dCall (arity 1 F_law_is_int) [] (aCons (dVar 0) (aNil))) (bin (fEq false) (dVar 0) (dVar 1))))))) := rfl
def flatI : Nat → D → Bool
  | _, .int _ => true
  | 0, .tup _ => false
  | n + 1, .tup xs => decide (xs.length ≤ 1000) && xs.all (flatI n)
  | _, _ => false
theorem is_int_eq (i : Int) (S : Sto) : F_law_is_int [.int i] S = .ok (.bl true) S := by
  unfold F_law_is_int
  walk_at "z"
theorem sB_go {n : Nat} {xs : List D} {S : Sto} (h : ∀ x ∈ xs, F_law_same n [x, x] S = .ok (.bl true) S) : ∀ (m i : Nat) (z : Option D), i + m = xs.length → ∃ z', forGo (fun _ => True) (gN 2) (sB n) (idx i m) [some (.tup xs), some (.tup xs), z] S = .nx [some (.tup xs), some (.tup xs), z'] S
  | 0, i, z, _ => ⟨z, forGo_nil trivial⟩
  | m + 1, i, z, hm => by
    have hi : i < xs.length := by omega
    have eg : ∀ u a b c, (gN 2).run u [a, b, c] = some [a, b, some u] := fun _ _ _ _ => rfl
    have fx := fIx_t (xs := xs) (A := i) (x := xs[i]) (List.getElem?_eq_getElem hi) S
    have hs := h xs[i] (List.getElem_mem hi)
    have eb : sB n [some (.tup xs), some (.tup xs), some (.int (i : Int))] S = .nx [some (.tup xs), some (.tup xs), some (.int (i : Int))] S := by
      clear h hm
      generalize xs[i] = x at *
      unfold sB
      walk_at "v"
    obtain ⟨z', ih⟩ := sB_go h m (i + 1) (some (.int (i : Int))) (by omega)
    refine ⟨z', ?_⟩
    rw [idx_succ, forGo, if_pos trivial, eg]
    simp only [eb]
    exact ih
theorem same_eq : ∀ (n : Nat) (d : D) (S : Sto), flatI n d = true → F_law_same (n + 1) [d, d] S = .ok (.bl true) S := by
  intro n
  induction n with
  | zero =>
    intro d S h
    cases d with
    | int i =>
      have e := is_int_eq i S
      rw [same_def]
      walk_at "z"
    | _ => cases h
  | succ n ih =>
    intro d S h
    cases d with
    | int i =>
      have e := is_int_eq i S
      rw [same_def]
      walk_at "z"
    | tup xs =>
      rw [flatI, Bool.and_eq_true, decide_eq_true_eq, List.all_eq_true] at h
      obtain ⟨hl, hx⟩ := h
      obtain ⟨z', lp⟩ := sB_go (n := n + 1) (xs := xs) (S := S) (fun x hx' => ih x S (hx x hx')) xs.length 0 none (by omega)
      have rg : fRng1 [.int (xs.length : Int)] S = .ok (idx 0 xs.length, fun _ => True) S := by
        rw [← rng_idx]
        exact fRng1_eq rfl hl
      have ln : fLen [.tup xs] S = .ok (.int (xs.length : Int)) S := rfl
      clear ih hx
      rw [same_def]
      walk_at "u"
    | _ => cases h
end K21
end

section
set_option Elab.async false
set_option linter.all false
set_option maxRecDepth 100000
set_option maxHeartbeats 1000000
open Z
local macro_rules | `(tactic| walk_at "z") => `(tactic| simp [fnF_eq, sSeq, sSet, sRet, sIf, sDrop, sNil, sAsg, sPar, sPut, F.then_nx, F.then_rt, F.then_bk, F.then_ct, F.then_ex, F.then_bad, F.then_ite, R.lift_ok, R.lift_ex, R.lift_bad, R.lift_ite, R.bind_ok, R.bind_ex, R.bind_bad, R.bind_ite, F.fin_nx, F.fin_rt, F.fin_ex, F.fin_bad, F.fin_ite, dVar, dC, bin, un, dAnd, dOr, dNot, tB', tAnd', tOr', tNot', dIf, asB_bl, aNil, aCons, dTup, mkT, dLst, mkL, fIx, seqOf, lstOf, L2.atI, L2.ixN, fAdd, fPlus, dSl, oSome, oNone, asI, fSl, fInT, fStr, fIntT, fFmt, dFmt, dJs, fPart, fStarts, fFind, fIsdig, fIsasc, fMulS, fSub, fMul, fLt, fGt, fLe, fGe, fEq, fDiv, fMod, fNeg, fPow, arity, dCall, dCallY, dCallK, noEx, dCB, fGcd, fLen, fMax2, fMin2, fInt, gN, gT, gAll, dIsi, fIsi, isTy, refOk, dIsN, dNotN, dIsB, dNotB, isNon, isBl, sz_lt, sz_le, sRaise, sTry, collapse_const, endX, dXf, dXis, dBM, dBM0, fPop, fApp, fRevM, fIns, fPopAt, tTr, fTr, aStar, dSoSet, sRetN, fTuple, fAbs, tyD, *])
local macro_rules | `(tactic| walk_at "y") => `(tactic| simp [fnF_eq, sSeq, sSet, sRet, sIf, sDrop, sNil, sAsg, sPar, sPut, F.then_nx, F.then_rt, F.then_bk, F.then_ct, F.then_ex, F.then_bad, F.then_ite, R.lift_ok, R.lift_ex, R.lift_bad, R.lift_ite, R.bind_ok, R.bind_ex, R.bind_bad, R.bind_ite, F.fin_nx, F.fin_rt, F.fin_ex, F.fin_bad, F.fin_ite, dVar, dC, bin, un, dAnd, dOr, dNot, tB', tAnd', tOr', tNot', dIf, asB_bl, aNil, aCons, dTup, mkT, dLst, mkL, fIx, seqOf, lstOf, L2.atI, L2.ixN, fAdd, fPlus, dSl, oSome, oNone, asI, fSl, fInT, fStr, fIntT, fFmt, dFmt, dJs, fPart, fStarts, fFind, fIsdig, fIsasc, fMulS, fSub, fMul, fLt, fGt, fLe, fGe, fEq, fDiv, fMod, fNeg, fPow, arity, dCall, dCallY, dCallK, noEx, dCB, fGcd, fLen, fMax2, fMin2, fInt, sFor, iRng1, fRng1, iSeq, asSeq, iAny, asAny, dIsi, fIsi, isTy, refOk, dIsN, dNotN, dIsB, dNotB, isNon, isBl, sz_lt, sz_le, sRaise, sTry, collapse_const, endX, dXf, dXis, dBM, dBM0, fPop, fApp, fRevM, fIns, fPopAt, tTr, fTr, aStar, dSoSet, sRetN, fTuple, fAbs, tyD, *])
local macro_rules | `(tactic| walk_at "v") => `(tactic| simp [fnF_eq, sSeq, sSet, sRet, sIf, sDrop, sNil, sAsg, sPar, sPut, F.then_nx, F.then_rt, F.then_bk, F.then_ct, F.then_ex, F.then_bad, F.then_ite, R.lift_ok, R.lift_ex, R.lift_bad, R.lift_ite, R.bind_ok, R.bind_ex, R.bind_bad, R.bind_ite, F.fin_nx, F.fin_rt, F.fin_ex, F.fin_bad, F.fin_ite, dVar, dC, bin, un, dAnd, dOr, dNot, tB', tAnd', tOr', tNot', dIf, asB_bl, aNil, aCons, dTup, mkT, dLst, mkL, seqOf, lstOf, fAdd, fPlus, dSl, oSome, oNone, asI, fInT, fStr, fIntT, fFmt, dFmt, dJs, fPart, fStarts, fFind, fIsdig, fIsasc, fMulS, fSub, fLt, fGt, fLe, fGe, fEq, fMod, fNeg, fPow, arity, dCall, dCallY, dCallK, noEx, dCB, fGcd, fMax2, fMin2, fInt, gN, gT, gAll, dIsi, fIsi, isTy, refOk, dIsN, dNotN, dIsB, dNotB, isNon, isBl, sz_lt, sz_le, sRaise, sTry, collapse_const, endX, dXf, dXis, dBM, dBM0, tTr, fTr, aStar, sRetN, fAbs, *])
local macro_rules | `(tactic| walk_at "u") => `(tactic| simp [fnF_eq, sSeq, sSet, sRet, sIf, sDrop, sNil, sAsg, sPar, sPut, F.then_nx, F.then_rt, F.then_bk, F.then_ct, F.then_ex, F.then_bad, F.then_ite, R.lift_ok, R.lift_ex, R.lift_bad, R.lift_ite, R.bind_ok, R.bind_ex, R.bind_bad, R.bind_ite, F.fin_nx, F.fin_rt, F.fin_ex, F.fin_bad, F.fin_ite, dVar, dC, bin, un, dAnd, dOr, dNot, tB', tAnd', tOr', tNot', dIf, asB_bl, aNil, aCons, dTup, mkT, dLst, mkL, seqOf, lstOf, fAdd, fPlus, dSl, oSome, oNone, asI, fInT, fStr, fIntT, fFmt, dFmt, dJs, fPart, fStarts, fFind, fIsdig, fIsasc, fMulS, fSub, fLt, fGt, fLe, fGe, fEq, fMod, fNeg, fPow, arity, dCall, dCallY, dCallK, noEx, dCB, fGcd, fMax2, fMin2, fInt, dIsi, fIsi, isTy, refOk, dIsN, dNotN, dIsB, dNotB, isNon, isBl, sz_lt, sz_le, sRaise, sTry, collapse_const, endX, dXf, dXis, dBM, dBM0, tTr, fTr, aStar, sRetN, fAbs, sFor, iAny, iRng1, iEn, *])
local macro_rules | `(tactic| walk_at "t") => `(tactic| simp [fnF_eq, sSeq, sSet, sRet, sIf, sDrop, sNil, sAsg, sPar, sPut, F.then_nx, F.then_rt, F.then_bk, F.then_ct, F.then_ex, F.then_bad, F.then_ite, R.lift_ok, R.lift_ex, R.lift_bad, R.lift_ite, R.bind_ok, R.bind_ex, R.bind_bad, R.bind_ite, F.fin_nx, F.fin_rt, F.fin_ex, F.fin_bad, F.fin_ite, dVar, dC, bin, un, dAnd, dOr, dNot, tB', tAnd', tOr', tNot', dIf, asB_bl, aNil, aCons, dTup, mkT, dLst, mkL, seqOf, lstOf, fAdd, dSl, oSome, oNone, asI, fInT, fStr, fIntT, fFmt, dFmt, dJs, fPart, fStarts, fFind, fIsdig, fIsasc, fMulS, fSub, fLt, fGt, fLe, fGe, fEq, fMod, fNeg, fPow, arity, dCall, dCallY, dCallK, noEx, dCB, fGcd, fMax2, fMin2, fInt, dIsi, fIsi, isTy, refOk, dIsN, dNotN, dIsB, dNotB, isNon, isBl, sz_lt, sz_le, sRaise, sTry, collapse_const, endX, dXf, dXis, dBM, dBM0, tTr, fTr, aStar, sRetN, fAbs, sFor, iAny, iRng1, iEn, *])
namespace K21
def hiD : Option (Int × Int) → D
  | none => .non
  | some m => .tup [.int m.1, .int m.2]
abbrev sp (l r : Int) (h : Option (Int × Int)) : D := .tup [.tup [.int l, .int r], hiD h]
def hiR : Option (Int × Int) → Prop
  | none => True
  | some m => m.2 = 0 ∨ m.2 = 1
def inH (a b : Int) : Option (Int × Int) → Bool
  | none => true
  | some m => decide (a < m.1 * b ∨ a = m.1 * b ∧ m.2 = 1)
def inA (a b l r : Int) (h : Option (Int × Int)) : Bool := !decide (a < l * b ∨ a = l * b ∧ r = 0) && inH a b h
def leH (p : Int) : Option (Int × Int) → Bool
  | none => true
  | some m => decide (p ≤ 2 * m.1 - 1 + m.2)
def plA (p l r : Int) (h : Option (Int × Int)) : Bool := !decide (p < 2 * l + 1 - r) && leH p h
theorem t3 (x y : Int) : x < y ∨ ((x = y) = True ∧ ¬ x < y) ∨ ((x = y) = False ∧ ¬ x < y) := by
  by_cases a : x < y
  · exact .inl a
  · by_cases b : x = y
    · exact .inr (.inl ⟨eq_true b, a⟩)
    · exact .inr (.inr ⟨eq_false b, a⟩)
theorem in_span_eq {a b l r : Int} {h : Option (Int × Int)} {S : Sto} (hb : 0 < b ∧ b < 1000) : F_law_in_span [.int a, .int b, sp l r h] S = .ok (.bl (inA a b l r h)) S := by
  have m1 := fMulb (x := l) (t := l) hb S
  cases h with
  | none =>
    have J0 := fx0
    have J1 := fx1
    generalize hu : l * b = u at *
    have K : F_law_in_span [.int a, .int b, .tup [.tup [.int l, .int r], .non]] S = .ok (.bl (!decide (a < u ∨ a = u ∧ r = 0))) S := by
      clear hb hu
      unfold F_law_in_span
      rcases t3 a u with x | ⟨x, y⟩ | ⟨x, y⟩ <;> by_cases z : r = 0 <;> walk_at "v"
    unfold inA inH sp hiD
    rw [hu, K]; simp
  | some m =>
    obtain ⟨h0, h1⟩ := m
    have m2 := fMulb (x := h0) (t := l) hb S
    have J0 := fx0
    have J1 := fx1
    generalize hu : l * b = u at *
    generalize hv : h0 * b = v at *
    have K : F_law_in_span [.int a, .int b, .tup [.tup [.int l, .int r], .tup [.int h0, .int h1]]] S = .ok (.bl (!decide (a < u ∨ a = u ∧ r = 0) && decide (a < v ∨ a = v ∧ h1 = 1))) S := by
      clear hb hu hv
      unfold F_law_in_span
      rcases t3 a u with x | ⟨x, y⟩ | ⟨x, y⟩ <;> by_cases z : r = 0 <;> rcases t3 a v with x' | ⟨x', y'⟩ | ⟨x', y'⟩ <;> by_cases z' : h1 = 1 <;> walk_at "v"
    unfold inA inH sp hiD
    simp only
    rw [hu, hv, K]
theorem place_in_non {l r : Int} {h : Option (Int × Int)} {S : Sto} : Fplace_in [.non, sp l r h] S = .ok (.bl h.isNone) S := by
  unfold Fplace_in
  cases h <;> (unfold sp hiD; walk_at "z")
theorem place_in_int {p l r : Int} {h : Option (Int × Int)} {S : Sto} : Fplace_in [.int p, sp l r h] S = .ok (.bl (plA p l r h)) S := by
  have m1 : ∀ x S, fMul (.int 2) (.int x) S = .ok (.int (2 * x)) S := fun x S => if_pos (.inl (.inl (by decide)))
  cases h with
  | none =>
    have j3 := fx0 (.int l) (.int r)
    have j4 := fx1 (.int l) (.int r)
    have K : Fplace_in [.int p, .tup [.tup [.int l, .int r], .non]] S = .ok (.bl (!decide (p < 2 * l + 1 - r))) S := by
      unfold Fplace_in
      by_cases x : p < 2 * l + 1 - r <;> (simp [fnF_eq, sSeq, sSet, sRet, sIf, sNil, sAsg, F.then_nx, F.then_rt, R.lift_ok, R.bind_ok, F.fin_rt, dVar, dC, bin, dOr, tB', asB_bl, dIsN, isNon, gT, gN, gAll, fSub, fPlus, fLt, fLe, m1, j3, j4, x])
    unfold plA leH sp hiD
    rw [K]; simp
  | some m =>
    obtain ⟨h0, h1⟩ := m
    have j3 := fx0 (.int l) (.int r)
    have j4 := fx1 (.int l) (.int r)
    have j5 := fx0 (.int h0) (.int h1)
    have j6 := fx1 (.int h0) (.int h1)
    have K : Fplace_in [.int p, .tup [.tup [.int l, .int r], .tup [.int h0, .int h1]]] S = .ok (.bl (!decide (p < 2 * l + 1 - r) && decide (p ≤ 2 * h0 - 1 + h1))) S := by
      unfold Fplace_in
      by_cases x : p < 2 * l + 1 - r <;> by_cases y : p ≤ 2 * h0 - 1 + h1 <;> (simp [fnF_eq, sSeq, sSet, sRet, sIf, sNil, sAsg, F.then_nx, F.then_rt, R.lift_ok, R.bind_ok, F.fin_rt, dVar, dC, bin, dOr, tB', asB_bl, dIsN, isNon, gT, gN, gAll, fSub, fPlus, fLt, fLe, m1, j3, j4, j5, j6, x, y])
    unfold plA leH sp hiD
    simp only
    rw [K]
/-- a test read off the place -/
theorem meets_pl {a b l r : Int} {h : Option (Int × Int)} (hb : 0 < b) (hr : r = 0 ∨ r = 1) (hh : hiR h) : plA (2 * (a / b) + if a / b * b = a then 0 else 1) l r h = inA a b l r h := by
  have d0 := Int.emod_add_mul_ediv a b
  have d1 := Int.emod_nonneg a (by omega : b ≠ 0)
  have d2 := Int.emod_lt_of_pos a hb
  have lt : ∀ x : Int, a < x * b ↔ a / b < x := fun x => (Int.ediv_lt_iff_lt_mul hb).symm
  have eq : ∀ x : Int, a = x * b ↔ a / b = x ∧ a / b * b = a := fun x => by
    constructor
    · intro e
      have : a / b = x := by rw [e]; exact Int.mul_ediv_cancel _ (by omega)
      exact ⟨this, by rw [this]; exact e.symm⟩
    · rintro ⟨e1, e2⟩
      rw [← e1]; exact e2.symm
  have lo : decide (2 * (a / b) + (if a / b * b = a then 0 else 1) < 2 * l + 1 - r) = decide (a < l * b ∨ a = l * b ∧ r = 0) := by
    apply decide_eq_decide.mpr
    rw [lt, eq]
    split <;> rcases hr with rfl | rfl <;> omega
  have hi : leH (2 * (a / b) + if a / b * b = a then 0 else 1) h = inH a b h := by
    cases h with
    | none => rfl
    | some m =>
      obtain ⟨h0, h1⟩ := m
      have hh' : h1 = 0 ∨ h1 = 1 := hh
      unfold leH inH
      apply decide_eq_decide.mpr
      simp only
      rw [lt, eq]
      split <;> rcases hh' with rfl | rfl <;> omega
  unfold plA inA
  rw [lo, hi]
def big1 (c : Int) : Option (Int × Int) → Option Int
  | none => none
  | some m => if c < m.1 then some m.1 else none
def tooG (c l : Int) (h : Option (Int × Int)) : Option Int := if c < l then some l else big1 c h
def oD : Option Int → D
  | none => .non
  | some i => .int i
theorem big_s {c : Int} {m : Int × Int} : big1 c (some m) = if c < m.1 then some m.1 else none := rfl
theorem too_eq {c l r : Int} {h : Option (Int × Int)} {S : Sto} : F_law_too_great [.int c, sp l r h] S = .ok (oD (tooG c l h)) S := by
  unfold tooG
  by_cases x : c < l
  · rw [if_pos x]
    unfold F_law_too_great oD
    cases h <;> (unfold sp hiD; walk_at "z")
  · rw [if_neg x]
    cases h with
    | none =>
      unfold F_law_too_great sp hiD big1 oD
      walk_at "z"
    | some m =>
      rw [big_s]
      by_cases y : c < m.1
      · rw [if_pos y]
        unfold F_law_too_great sp hiD oD
        walk_at "z"
      · rw [if_neg y]
        unfold F_law_too_great sp hiD oD
        walk_at "z"
theorem meets_non {a b c l r : Int} {h : Option (Int × Int)} (hb : 0 < b) (hc : c * b < a) (ht : tooG c l h = none) : h.isNone = inA a b l r h := by
  have lc : l ≤ c := by
    unfold tooG at ht
    by_cases x : c < l
    · rw [if_pos x] at ht; cases ht
    · omega
  have l1 : ¬ (a < l * b ∨ a = l * b ∧ r = 0) := by
    have : l * b ≤ c * b := Int.mul_le_mul_of_nonneg_right lc (by omega)
    omega
  unfold inA
  rw [decide_eq_false l1]
  cases h with
  | none => rfl
  | some m =>
    have hm : m.1 ≤ c := by
      unfold tooG at ht
      rw [if_neg (by omega), big_s] at ht
      by_cases x : c < m.1
      · rw [if_pos x] at ht; cases ht
      · omega
    have : m.1 * b ≤ c * b := Int.mul_le_mul_of_nonneg_right hm (by omega)
    have l2 : ¬ (a < m.1 * b ∨ a = m.1 * b ∧ m.2 = 1) := by omega
    have e : inH a b (some m) = decide (a < m.1 * b ∨ a = m.1 * b ∧ m.2 = 1) := rfl
    rw [e, decide_eq_false l2]; rfl
end K21
end

section
set_option Elab.async false
set_option linter.all false
set_option maxRecDepth 100000
set_option maxHeartbeats 1000000
open Z
local macro_rules | `(tactic| walk_at "z") => `(tactic| simp [fnF_eq, sSeq, sSet, sRet, sIf, sDrop, sNil, sAsg, sPar, sPut, F.then_nx, F.then_rt, F.then_bk, F.then_ct, F.then_ex, F.then_bad, F.then_ite, R.lift_ok, R.lift_ex, R.lift_bad, R.lift_ite, R.bind_ok, R.bind_ex, R.bind_bad, R.bind_ite, F.fin_nx, F.fin_rt, F.fin_ex, F.fin_bad, F.fin_ite, dVar, dC, bin, un, dAnd, dOr, dNot, tB', tAnd', tOr', tNot', dIf, asB_bl, aNil, aCons, dTup, mkT, dLst, mkL, fIx, seqOf, lstOf, L2.atI, L2.ixN, fAdd, fPlus, dSl, oSome, oNone, asI, fSl, fInT, fStr, fIntT, fFmt, dFmt, dJs, fPart, fStarts, fFind, fIsdig, fIsasc, fMulS, fSub, fMul, fLt, fGt, fLe, fGe, fEq, fDiv, fMod, fNeg, fPow, arity, dCall, dCallY, dCallK, noEx, dCB, fGcd, fLen, fMax2, fMin2, fInt, gN, gT, gAll, dIsi, fIsi, isTy, refOk, dIsN, dNotN, dIsB, dNotB, isNon, isBl, sz_lt, sz_le, sRaise, sTry, collapse_const, endX, dXf, dXis, dBM, dBM0, fPop, fApp, fRevM, fIns, fPopAt, tTr, fTr, aStar, dSoSet, sRetN, fTuple, fAbs, tyD, *])
local macro_rules | `(tactic| walk_at "y") => `(tactic| simp [fnF_eq, sSeq, sSet, sRet, sIf, sDrop, sNil, sAsg, sPar, sPut, F.then_nx, F.then_rt, F.then_bk, F.then_ct, F.then_ex, F.then_bad, F.then_ite, R.lift_ok, R.lift_ex, R.lift_bad, R.lift_ite, R.bind_ok, R.bind_ex, R.bind_bad, R.bind_ite, F.fin_nx, F.fin_rt, F.fin_ex, F.fin_bad, F.fin_ite, dVar, dC, bin, un, dAnd, dOr, dNot, tB', tAnd', tOr', tNot', dIf, asB_bl, aNil, aCons, dTup, mkT, dLst, mkL, fIx, seqOf, lstOf, L2.atI, L2.ixN, fAdd, fPlus, dSl, oSome, oNone, asI, fSl, fInT, fStr, fIntT, fFmt, dFmt, dJs, fPart, fStarts, fFind, fIsdig, fIsasc, fMulS, fSub, fMul, fLt, fGt, fLe, fGe, fEq, fDiv, fMod, fNeg, fPow, arity, dCall, dCallY, dCallK, noEx, dCB, fGcd, fLen, fMax2, fMin2, fInt, sFor, iRng1, fRng1, iSeq, asSeq, iAny, asAny, dIsi, fIsi, isTy, refOk, dIsN, dNotN, dIsB, dNotB, isNon, isBl, sz_lt, sz_le, sRaise, sTry, collapse_const, endX, dXf, dXis, dBM, dBM0, fPop, fApp, fRevM, fIns, fPopAt, tTr, fTr, aStar, dSoSet, sRetN, fTuple, fAbs, tyD, *])
local macro_rules | `(tactic| walk_at "v") => `(tactic| simp [fnF_eq, sSeq, sSet, sRet, sIf, sDrop, sNil, sAsg, sPar, sPut, F.then_nx, F.then_rt, F.then_bk, F.then_ct, F.then_ex, F.then_bad, F.then_ite, R.lift_ok, R.lift_ex, R.lift_bad, R.lift_ite, R.bind_ok, R.bind_ex, R.bind_bad, R.bind_ite, F.fin_nx, F.fin_rt, F.fin_ex, F.fin_bad, F.fin_ite, dVar, dC, bin, un, dAnd, dOr, dNot, tB', tAnd', tOr', tNot', dIf, asB_bl, aNil, aCons, dTup, mkT, dLst, mkL, seqOf, lstOf, fAdd, fPlus, dSl, oSome, oNone, asI, fInT, fStr, fIntT, fFmt, dFmt, dJs, fPart, fStarts, fFind, fIsdig, fIsasc, fMulS, fSub, fLt, fGt, fLe, fGe, fEq, fMod, fNeg, fPow, arity, dCall, dCallY, dCallK, noEx, dCB, fGcd, fMax2, fMin2, fInt, gN, gT, gAll, dIsi, fIsi, isTy, refOk, dIsN, dNotN, dIsB, dNotB, isNon, isBl, sz_lt, sz_le, sRaise, sTry, collapse_const, endX, dXf, dXis, dBM, dBM0, tTr, fTr, aStar, sRetN, fAbs, *])
local macro_rules | `(tactic| walk_at "u") => `(tactic| simp [fnF_eq, sSeq, sSet, sRet, sIf, sDrop, sNil, sAsg, sPar, sPut, F.then_nx, F.then_rt, F.then_bk, F.then_ct, F.then_ex, F.then_bad, F.then_ite, R.lift_ok, R.lift_ex, R.lift_bad, R.lift_ite, R.bind_ok, R.bind_ex, R.bind_bad, R.bind_ite, F.fin_nx, F.fin_rt, F.fin_ex, F.fin_bad, F.fin_ite, dVar, dC, bin, un, dAnd, dOr, dNot, tB', tAnd', tOr', tNot', dIf, asB_bl, aNil, aCons, dTup, mkT, dLst, mkL, seqOf, lstOf, fAdd, fPlus, dSl, oSome, oNone, asI, fInT, fStr, fIntT, fFmt, dFmt, dJs, fPart, fStarts, fFind, fIsdig, fIsasc, fMulS, fSub, fLt, fGt, fLe, fGe, fEq, fMod, fNeg, fPow, arity, dCall, dCallY, dCallK, noEx, dCB, fGcd, fMax2, fMin2, fInt, dIsi, fIsi, isTy, refOk, dIsN, dNotN, dIsB, dNotB, isNon, isBl, sz_lt, sz_le, sRaise, sTry, collapse_const, endX, dXf, dXis, dBM, dBM0, tTr, fTr, aStar, sRetN, fAbs, sFor, iAny, iRng1, iEn, *])
local macro_rules | `(tactic| walk_at "t") => `(tactic| simp [fnF_eq, sSeq, sSet, sRet, sIf, sDrop, sNil, sAsg, sPar, sPut, F.then_nx, F.then_rt, F.then_bk, F.then_ct, F.then_ex, F.then_bad, F.then_ite, R.lift_ok, R.lift_ex, R.lift_bad, R.lift_ite, R.bind_ok, R.bind_ex, R.bind_bad, R.bind_ite, F.fin_nx, F.fin_rt, F.fin_ex, F.fin_bad, F.fin_ite, dVar, dC, bin, un, dAnd, dOr, dNot, tB', tAnd', tOr', tNot', dIf, asB_bl, aNil, aCons, dTup, mkT, dLst, mkL, seqOf, lstOf, fAdd, dSl, oSome, oNone, asI, fInT, fStr, fIntT, fFmt, dFmt, dJs, fPart, fStarts, fFind, fIsdig, fIsasc, fMulS, fSub, fLt, fGt, fLe, fGe, fEq, fMod, fNeg, fPow, arity, dCall, dCallY, dCallK, noEx, dCB, fGcd, fMax2, fMin2, fInt, dIsi, fIsi, isTy, refOk, dIsN, dNotN, dIsB, dNotB, isNon, isBl, sz_lt, sz_le, sRaise, sTry, collapse_const, endX, dXf, dXis, dBM, dBM0, tTr, fTr, aStar, sRetN, fAbs, sFor, iAny, iRng1, iEn, *])
namespace K21
noncomputable def eB : SDen := (sIf (tAnd' (tB' (dNotN (dVar 4))) (tB' (bin fGt (bin fIx (dVar 4) (dC (.int 0))) (bin fIx (dVar 1) (bin fSub (dVar 2) (dC (.int 1))))))) (sRaise "BeyondCeiling" ["clock", "limit"] (aCons (dVar 2) (aCons (bin fIx (dVar 4) (dC (.int 0))) (aNil)))) (sNil))
theorem kin_def : Fkind_in = fnF 5 (sSeq (sFor (iAny (dVar 3)) (gN 4) eB) (sRet (dCall (arity 2 Fplace_in) [] (aCons (dCall (arity 2 Fplace_of) [] (aCons (dVar 0) (aCons (dVar 2) (aNil)))) (aCons (dVar 3) (aNil)))))) := rfl
section
variable {kd cs' : D} {c k l r : Int} {h : Option (Int × Int)} {S : Sto} {y : Option D}
theorem eB_non (hc : fIx cs' (.int (k - 1)) S = .ok (.int c) S) {x : D} : eB [some kd, some cs', some (.int k), some x, some .non] S = .nx [some kd, some cs', some (.int k), some x, some .non] S := by
  unfold eB
  walk_at "v"
theorem eB_ok (hc : fIx cs' (.int (k - 1)) S = .ok (.int c) S) {x : D} {p q : Int} (hp : ¬ c < p) : eB [some kd, some cs', some (.int k), some x, some (.tup [.int p, .int q])] S = .nx [some kd, some cs', some (.int k), some x, some (.tup [.int p, .int q])] S := by
  have j := fx0 (.int p) (.int q) S
  unfold eB
  walk_at "v"
theorem eB_ex (hc : fIx cs' (.int (k - 1)) S = .ok (.int c) S) {x : D} {p q : Int} (hp : c < p) : eB [some kd, some cs', some (.int k), some x, some (.tup [.int p, .int q])] S = .ex "BeyondCeiling" [("limit", .int p), ("clock", .int k)] [some kd, some cs', some (.int k), some x, some (.tup [.int p, .int q])] S := by
  have j := fx0 (.int p) (.int q) S
  unfold eB
  walk_at "v"
theorem eg4 (u : D) (a b c d e : Option D) : (gN 4).run u [a, b, c, d, e] = some [a, b, c, d, some u] := rfl
/-- the edges looked through: none is too great -/
theorem kin_go (hc : fIx cs' (.int (k - 1)) S = .ok (.int c) S) {x : D} (ht : tooG c l h = none) : ∃ y', forGo (fun _ => True) (gN 4) eB [.tup [.int l, .int r], hiD h] [some kd, some cs', some (.int k), some x, y] S = .nx [some kd, some cs', some (.int k), some x, y'] S := by
  have lc : ¬ c < l := by
    unfold tooG at ht
    by_cases z : c < l
    · rw [if_pos z] at ht; cases ht
    · exact z
  refine ⟨some (hiD h), ?_⟩
  rw [forGo, if_pos trivial, eg4]
  simp only [eB_ok hc lc]
  rw [forGo, if_pos trivial, eg4]
  cases h with
  | none =>
    simp only [hiD, eB_non hc]
    exact forGo_nil trivial
  | some m =>
    have mc : ¬ c < m.1 := by
      unfold tooG at ht
      rw [if_neg lc, big_s] at ht
      by_cases z : c < m.1
      · rw [if_pos z] at ht; cases ht
      · exact z
    simp only [hiD, eB_ok hc mc]
    exact forGo_nil trivial
theorem kin_ex (hc : fIx cs' (.int (k - 1)) S = .ok (.int c) S) {x : D} {lim : Int} (ht : tooG c l h = some lim) : ∃ e', forGo (fun _ => True) (gN 4) eB [.tup [.int l, .int r], hiD h] [some kd, some cs', some (.int k), some x, y] S = .ex "BeyondCeiling" [("limit", .int lim), ("clock", .int k)] e' S := by
  by_cases z : c < l
  · unfold tooG at ht
    rw [if_pos z] at ht; cases ht
    refine ⟨[some kd, some cs', some (.int k), some x, some (.tup [.int l, .int r])], ?_⟩
    rw [forGo, if_pos trivial, eg4]
    simp only [eB_ex hc z]
  · unfold tooG at ht
    rw [if_neg z] at ht
    cases h with
    | none => cases ht
    | some m =>
      rw [big_s] at ht
      by_cases w : c < m.1
      · rw [if_pos w] at ht; cases ht
        refine ⟨[some kd, some cs', some (.int k), some x, some (.tup [.int m.1, .int m.2])], ?_⟩
        rw [forGo, if_pos trivial, eg4]
        simp only [eB_ok hc z]
        rw [forGo, if_pos trivial, eg4]
        simp only [hiD, eB_ex hc w]
      · rw [if_neg w] at ht; cases ht
end
section
variable {as cs F : List Int} {b l r : Int} {gs : List (Int × List Int)} {i : Nat} {h : Option (Int × Int)} {S : Sto}
theorem cix (hc : i < cs.length) : fIx (tI cs) (.int ((i : Int) + 1 - 1)) S = .ok (.int cs[i]) S := by
  have e : (i : Int) + 1 - 1 = i := by omega
  rw [e]
  exact fIx_t (by simp [hc]) S
theorem as_sp : asAny (sp l r h) S = .ok ([.tup [.int l, .int r], hiD h], fun _ => True) S := rfl
theorem kind_in_eq (K : Kd as cs b F gs) (hb : 0 < b ∧ b < 1000) (hl : as.length = cs.length) (hi : i < as.length) (hc : i < cs.length) (hr : r = 0 ∨ r = 1) (hh : hiR h) (ht : tooG cs[i] l h = none) :
    Fkind_in [kD (List.zipWith (wh b) as cs) F gs, tI cs, .int ((i : Int) + 1), sp l r h] S = .ok (.bl (inA as[i] b l r h)) S := by
  have po := place_of_eq (S := S) K hl hi hc
  obtain ⟨y', lp⟩ := kin_go (kd := kD (List.zipWith (wh b) as cs) F gs) (y := none) (r := r) (x := sp l r h) (cix (S := S) hc) ht
  have an := as_sp (l := l) (r := r) (h := h) (S := S)
  rw [kin_def]
  generalize kD (List.zipWith (wh b) as cs) F gs = kd at *
  by_cases c1 : cs[i] * b < as[i]
  · rw [if_pos c1] at po
    have pl := place_in_non (l := l) (r := r) (h := h) (S := S)
    rw [meets_non (r := r) hb.1 c1 ht] at pl
    generalize inA as[i] b l r h = B at *
    generalize sp l r h = s at *
    clear c1 ht hr hh K hb
    walk_at "u"
  · rw [if_neg c1] at po
    have pl := place_in_int (p := 2 * (as[i] / b) + if as[i] / b * b = as[i] then 0 else 1) (l := l) (r := r) (h := h) (S := S)
    rw [meets_pl hb.1 hr hh] at pl
    generalize inA as[i] b l r h = B at *
    generalize sp l r h = s at *
    generalize (2 * (as[i] / b) + if as[i] / b * b = as[i] then 0 else 1) = pp at *
    clear c1 ht hr hh K hb
    walk_at "u"
theorem refused_eq (hc : i < cs.length) {kd : D} {lim : Int} (ht : tooG cs[i] l h = some lim) : F_law_refused [kd, tI cs, .int ((i : Int) + 1), sp l r h, .int lim] S = .ok (.bl true) S := by
  obtain ⟨e', lp⟩ := kin_ex (kd := kd) (y := none) (r := r) (x := sp l r h) (cix (S := S) hc) ht
  have an := as_sp (l := l) (r := r) (h := h) (S := S)
  have ki : Fkind_in [kd, tI cs, .int ((i : Int) + 1), sp l r h] S = .ex "BeyondCeiling" [("limit", .int lim), ("clock", .int ((i : Int) + 1))] S := by
    rw [kin_def]
    generalize sp l r h = s at *
    clear ht
    walk_at "u"
  have sm := same_eq 5 (.tup [.int ((i : Int) + 1), .int lim]) S rfl
  have lk : ([(PySem.Str.ofString "limit", D.int lim), (PySem.Str.ofString "clock", D.int ((i : Int) + 1))] : List (PySem.Str × D)).lookup (PySem.Str.ofString "clock") = some (.int ((i : Int) + 1)) := rfl
  clear lp an ht
  unfold F_law_refused
  walk_at "z"
end
end K21
end

section
set_option Elab.async false
set_option linter.all false
set_option maxRecDepth 100000
set_option maxHeartbeats 1000000
open Z
local macro_rules | `(tactic| walk_at "z") => `(tactic| simp [fnF_eq, sSeq, sSet, sRet, sIf, sDrop, sNil, sAsg, sPar, sPut, F.then_nx, F.then_rt, F.then_bk, F.then_ct, F.then_ex, F.then_bad, F.then_ite, R.lift_ok, R.lift_ex, R.lift_bad, R.lift_ite, R.bind_ok, R.bind_ex, R.bind_bad, R.bind_ite, F.fin_nx, F.fin_rt, F.fin_ex, F.fin_bad, F.fin_ite, dVar, dC, bin, un, dAnd, dOr, dNot, tB', tAnd', tOr', tNot', dIf, asB_bl, aNil, aCons, dTup, mkT, dLst, mkL, fIx, seqOf, lstOf, L2.atI, L2.ixN, fAdd, fPlus, dSl, oSome, oNone, asI, fSl, fInT, fStr, fIntT, fFmt, dFmt, dJs, fPart, fStarts, fFind, fIsdig, fIsasc, fMulS, fSub, fMul, fLt, fGt, fLe, fGe, fEq, fDiv, fMod, fNeg, fPow, arity, dCall, dCallY, dCallK, noEx, dCB, fGcd, fLen, fMax2, fMin2, fInt, gN, gT, gAll, dIsi, fIsi, isTy, refOk, dIsN, dNotN, dIsB, dNotB, isNon, isBl, sz_lt, sz_le, sRaise, sTry, collapse_const, endX, dXf, dXis, dBM, dBM0, fPop, fApp, fRevM, fIns, fPopAt, tTr, fTr, aStar, dSoSet, sRetN, fTuple, fAbs, tyD, *])
local macro_rules | `(tactic| walk_at "y") => `(tactic| simp [fnF_eq, sSeq, sSet, sRet, sIf, sDrop, sNil, sAsg, sPar, sPut, F.then_nx, F.then_rt, F.then_bk, F.then_ct, F.then_ex, F.then_bad, F.then_ite, R.lift_ok, R.lift_ex, R.lift_bad, R.lift_ite, R.bind_ok, R.bind_ex, R.bind_bad, R.bind_ite, F.fin_nx, F.fin_rt, F.fin_ex, F.fin_bad, F.fin_ite, dVar, dC, bin, un, dAnd, dOr, dNot, tB', tAnd', tOr', tNot', dIf, asB_bl, aNil, aCons, dTup, mkT, dLst, mkL, fIx, seqOf, lstOf, L2.atI, L2.ixN, fAdd, fPlus, dSl, oSome, oNone, asI, fSl, fInT, fStr, fIntT, fFmt, dFmt, dJs, fPart, fStarts, fFind, fIsdig, fIsasc, fMulS, fSub, fMul, fLt, fGt, fLe, fGe, fEq, fDiv, fMod, fNeg, fPow, arity, dCall, dCallY, dCallK, noEx, dCB, fGcd, fLen, fMax2, fMin2, fInt, sFor, iRng1, fRng1, iSeq, asSeq, iAny, asAny, dIsi, fIsi, isTy, refOk, dIsN, dNotN, dIsB, dNotB, isNon, isBl, sz_lt, sz_le, sRaise, sTry, collapse_const, endX, dXf, dXis, dBM, dBM0, fPop, fApp, fRevM, fIns, fPopAt, tTr, fTr, aStar, dSoSet, sRetN, fTuple, fAbs, tyD, *])
local macro_rules | `(tactic| walk_at "v") => `(tactic| simp [fnF_eq, sSeq, sSet, sRet, sIf, sDrop, sNil, sAsg, sPar, sPut, F.then_nx, F.then_rt, F.then_bk, F.then_ct, F.then_ex, F.then_bad, F.then_ite, R.lift_ok, R.lift_ex, R.lift_bad, R.lift_ite, R.bind_ok, R.bind_ex, R.bind_bad, R.bind_ite, F.fin_nx, F.fin_rt, F.fin_ex, F.fin_bad, F.fin_ite, dVar, dC, bin, un, dAnd, dOr, dNot, tB', tAnd', tOr', tNot', dIf, asB_bl, aNil, aCons, dTup, mkT, dLst, mkL, seqOf, lstOf, fAdd, fPlus, dSl, oSome, oNone, asI, fInT, fStr, fIntT, fFmt, dFmt, dJs, fPart, fStarts, fFind, fIsdig, fIsasc, fMulS, fSub, fLt, fGt, fLe, fGe, fEq, fMod, fNeg, fPow, arity, dCall, dCallY, dCallK, noEx, dCB, fGcd, fMax2, fMin2, fInt, gN, gT, gAll, dIsi, fIsi, isTy, refOk, dIsN, dNotN, dIsB, dNotB, isNon, isBl, sz_lt, sz_le, sRaise, sTry, collapse_const, endX, dXf, dXis, dBM, dBM0, tTr, fTr, aStar, sRetN, fAbs, *])
local macro_rules | `(tactic| walk_at "u") => `(tactic| simp [fnF_eq, sSeq, sSet, sRet, sIf, sDrop, sNil, sAsg, sPar, sPut, F.then_nx, F.then_rt, F.then_bk, F.then_ct, F.then_ex, F.then_bad, F.then_ite, R.lift_ok, R.lift_ex, R.lift_bad, R.lift_ite, R.bind_ok, R.bind_ex, R.bind_bad, R.bind_ite, F.fin_nx, F.fin_rt, F.fin_ex, F.fin_bad, F.fin_ite, dVar, dC, bin, un, dAnd, dOr, dNot, tB', tAnd', tOr', tNot', dIf, asB_bl, aNil, aCons, dTup, mkT, dLst, mkL, seqOf, lstOf, fAdd, fPlus, dSl, oSome, oNone, asI, fInT, fStr, fIntT, fFmt, dFmt, dJs, fPart, fStarts, fFind, fIsdig, fIsasc, fMulS, fSub, fLt, fGt, fLe, fGe, fEq, fMod, fNeg, fPow, arity, dCall, dCallY, dCallK, noEx, dCB, fGcd, fMax2, fMin2, fInt, dIsi, fIsi, isTy, refOk, dIsN, dNotN, dIsB, dNotB, isNon, isBl, sz_lt, sz_le, sRaise, sTry, collapse_const, endX, dXf, dXis, dBM, dBM0, tTr, fTr, aStar, sRetN, fAbs, sFor, iAny, iRng1, iEn, *])
local macro_rules | `(tactic| walk_at "t") => `(tactic| simp [fnF_eq, sSeq, sSet, sRet, sIf, sDrop, sNil, sAsg, sPar, sPut, F.then_nx, F.then_rt, F.then_bk, F.then_ct, F.then_ex, F.then_bad, F.then_ite, R.lift_ok, R.lift_ex, R.lift_bad, R.lift_ite, R.bind_ok, R.bind_ex, R.bind_bad, R.bind_ite, F.fin_nx, F.fin_rt, F.fin_ex, F.fin_bad, F.fin_ite, dVar, dC, bin, un, dAnd, dOr, dNot, tB', tAnd', tOr', tNot', dIf, asB_bl, aNil, aCons, dTup, mkT, dLst, mkL, seqOf, lstOf, fAdd, dSl, oSome, oNone, asI, fInT, fStr, fIntT, fFmt, dFmt, dJs, fPart, fStarts, fFind, fIsdig, fIsasc, fMulS, fSub, fLt, fGt, fLe, fGe, fEq, fMod, fNeg, fPow, arity, dCall, dCallY, dCallK, noEx, dCB, fGcd, fMax2, fMin2, fInt, dIsi, fIsi, isTy, refOk, dIsN, dNotN, dIsB, dNotB, isNon, isBl, sz_lt, sz_le, sRaise, sTry, collapse_const, endX, dXf, dXis, dBM, dBM0, tTr, fTr, aStar, sRetN, fAbs, sFor, iAny, iRng1, iEn, *])
namespace K21
noncomputable def W3 : SDen := (sSeq (sSet 6 (dCall (arity 2 F_law_draw) [] (aCons (dVar 0) (aCons (dC (.int 2)) (aNil))))) (sSeq (sIf (tB' (bin (fEq false) (dCall (arity 2 F_law_draw) [] (aCons (dVar 0) (aCons (dC (.int 4)) (aNil)))) (dC (.int 0)))) (sRet (dTup (aCons (dTup (aCons (dVar 5) (aCons (dVar 6) (aNil)))) (aCons (dC .non) (aNil))))) (sNil)) (sSeq (sSet 7 (bin fPlus (dVar 5) (dCall (arity 2 F_law_draw) [] (aCons (dVar 0) (aCons (bin fSub (dVar 4) (dVar 5)) (aNil)))))) (sSeq (sIf (tAnd' (tB' (bin fGt (dVar 7) (dVar 5))) (tB' (bin (fEq false) (dCall (arity 2 F_law_draw) [] (aCons (dVar 0) (aCons (dC (.int 2)) (aNil)))) (dC (.int 0))))) (sSet 7 (bin fPlus (dVar 5) (dC (.int 1)))) (sNil)) (sSeq (sIf (tB' (bin (fEq false) (dVar 7) (dVar 5))) (sRet (dTup (aCons (dTup (aCons (dVar 5) (aCons (dC (.int 1)) (aNil)))) (aCons (dTup (aCons (dVar 5) (aCons (dC (.int 1)) (aNil)))) (aNil))))) (sNil)) (sRet (dTup (aCons (dTup (aCons (dVar 5) (aCons (dVar 6) (aNil)))) (aCons (dTup (aCons (dVar 7) (aCons (dCall (arity 2 F_law_draw) [] (aCons (dVar 0) (aCons (dC (.int 2)) (aNil)))) (aNil)))) (aNil))))))))))
theorem span_def : F_law_span = fnF 8 (sSeq (sSet 4 (bin fPlus (dVar 1) (dC (.int 1)))) (sSeq (sIf (tB' (bin (fEq false) (dCall (arity 2 F_law_draw) [] (aCons (dVar 0) (aCons (dC (.int 4)) (aNil)))) (dC (.int 0)))) (sSet 4 (bin fPlus (dVar 1) (dC (.int 3)))) (sNil)) (sSeq (sSet 5 (dCall (arity 2 F_law_draw) [] (aCons (dVar 0) (aCons (dVar 4) (aNil))))) (sSeq (sIf (tB' (bin (fEq false) (dCall (arity 2 F_law_draw) [] (aCons (dVar 0) (aCons (dC (.int 2)) (aNil)))) (dC (.int 0)))) (sSet 5 (dCB fMin2 (aCons (bin fDiv (dVar 2) (dVar 3)) (aCons (bin fSub (dVar 4) (dC (.int 1))) (aNil))))) (sNil)) W3)))) := rfl
theorem W3_eq {x1 x2 x3 : D} {top low : Int} {S rest : Sto} (hS : IsBox S rest) (h0 : 0 ≤ low) (h1 : low < top) (h2 : top < 100000) :
    ∃ l r h S', W3 [some (.ref 1), some x1, some x2, some x3, some (.int top), some (.int low), none, none] S = .rt (sp l r h) S' ∧ IsBox S' rest ∧ (r = 0 ∨ r = 1) ∧ hiR h := by
  obtain ⟨r, S1, e1, b1, r0, r1⟩ := draw_eq (n := 2) hS (by decide) (by decide)
  obtain ⟨c, S2, e2, b2, c0, c1⟩ := draw_eq (n := 4) b1 (by decide) (by decide)
  have rb : r = 0 ∨ r = 1 := by omega
  by_cases hc : c = 0
  · refine ⟨low, r, none, S2, ?_, b2, rb, trivial⟩
    clear rb
    unfold W3 sp hiD
    walk_at "z"
  obtain ⟨d, S3, e3, b3, d0, d1⟩ := draw_eq (n := top - low) b2 (by omega) (by omega)
  by_cases hd : d = 0
  · have e : low + d = low := by omega
    have n : ¬ low < low := by omega
    refine ⟨low, 1, some (low, 1), S3, ?_, b3, .inr rfl, .inr rfl⟩
    clear rb r0 r1 c0 c1 d0 d1 h0 h1 h2
    unfold W3 sp hiD
    subst hd
    walk_at "z"
  · have hp : low < low + d := by omega
    obtain ⟨f, S4, e4, b4, f0, f1⟩ := draw_eq (n := 2) b3 (by decide) (by decide)
    obtain ⟨g, S5, e5, b5, g0, g1⟩ := draw_eq (n := 2) b4 (by decide) (by decide)
    have gb : g = 0 ∨ g = 1 := by omega
    have ne1 : ¬ low + 1 = low := by omega
    have ne2 : ¬ low + d = low := by omega
    have dp : 0 < d := by omega
    by_cases hf : f = 0
    · refine ⟨low, r, some (low + 1, g), S5, ?_, b5, rb, gb⟩
      clear rb gb r0 r1 c0 c1 d0 d1 h0 h1 h2 f0 f1 g0 g1
      unfold W3 sp hiD
      walk_at "z"
    · refine ⟨low, r, some (low + d, g), S5, ?_, b5, rb, gb⟩
      clear rb gb r0 r1 c0 c1 d0 d1 h0 h1 h2 f0 f1 g0 g1
      unfold W3 sp hiD
      walk_at "z"
theorem span_eq {c a b : Int} {S rest : Sto} (hS : IsBox S rest) (hc : 0 ≤ c ∧ c < 1000) (ha : 0 ≤ a) (hb : 0 < b ∧ b < 1000) :
    ∃ l r h S', F_law_span [.ref 1, .int c, .int a, .int b] S = .ok (sp l r h) S' ∧ IsBox S' rest ∧ (r = 0 ∨ r = 1) ∧ hiR h := by
  obtain ⟨d, S1, e1, b1, d0, d1⟩ := draw_eq (n := 4) hS (by decide) (by decide)
  have dv : ∀ S, fDiv (.int a) (.int b) S = .ok (.int (a / b)) S := fun S => if_pos (sm.div (a := 60) (by unfold sm; omega) hb.1 (by decide))
  have qa : 0 ≤ a / b := Int.ediv_nonneg ha (by omega)
  have go : ∀ top : Int, (d = 0 ∧ top = c + 3 ∨ ¬ d = 0 ∧ top = c + 1) → ∃ l r h S', F_law_span [.ref 1, .int c, .int a, .int b] S = .ok (sp l r h) S' ∧ IsBox S' rest ∧ (r = 0 ∨ r = 1) ∧ hiR h := fun top ht => by
    obtain ⟨w, S2, e2, b2, w0, w1⟩ := draw_eq (n := top) b1 (by omega) (by omega)
    obtain ⟨f, S3, e3, b3, f0, f1⟩ := draw_eq (n := 2) b2 (by decide) (by decide)
    rw [span_def]
    by_cases hf : f = 0
    · have mn : fMin2 [.int (a / b), .int (top - 1)] S3 = .ok (.int (if top - 1 < a / b then top - 1 else a / b)) S3 := rfl
      obtain ⟨l, r, h, S4, e4, b4, hr, hh⟩ := W3_eq (x1 := .int c) (x2 := .int a) (x3 := .int b) (top := top) (low := if top - 1 < a / b then top - 1 else a / b) b3 (by split <;> omega) (by split <;> omega) (by omega)
      refine ⟨l, r, h, S4, ?_, b4, hr, hh⟩
      have dv3 := dv S3
      generalize (if top - 1 < a / b then top - 1 else a / b) = low at *
      generalize sp l r h = s at *
      generalize a / b = q at *
      rcases ht with ⟨rfl, rfl⟩ | ⟨h1, rfl⟩
      · have en : c + 3 - 1 = c + 2 := by omega
        clear qa dv hr hh
        simp [fnF_eq, sSeq, sSet, sIf, sNil, F.then_nx, F.then_rt, R.lift_ok, R.bind_ok, F.fin_rt, dVar, dC, bin, fEq, fSub, fPlus, tB', asB_bl, dCB, aCons, aNil, dCall, arity, e1, e2, e3, hf, dv3, mn, e4]
      · have en : c + 1 - 1 = c := by omega
        rw [en] at mn
        clear qa dv hr hh
        simp [fnF_eq, sSeq, sSet, sIf, sNil, F.then_nx, F.then_rt, R.lift_ok, R.bind_ok, F.fin_rt, dVar, dC, bin, fEq, fSub, fPlus, tB', asB_bl, dCB, aCons, aNil, dCall, arity, e1, e2, e3, hf, h1, dv3, mn, e4]
    · obtain ⟨l, r, h, S4, e4, b4, hr, hh⟩ := W3_eq (x1 := .int c) (x2 := .int a) (x3 := .int b) (top := top) (low := w) b3 w0 w1 (by omega)
      refine ⟨l, r, h, S4, ?_, b4, hr, hh⟩
      generalize sp l r h = s at *
      rcases ht with ⟨rfl, rfl⟩ | ⟨h1, rfl⟩
      · simp [fnF_eq, sSeq, sSet, sIf, sNil, F.then_nx, F.then_rt, R.lift_ok, R.bind_ok, F.fin_rt, dVar, dC, bin, fEq, fSub, fPlus, tB', asB_bl, dCB, aCons, aNil, dCall, arity, e1, e2, e3, hf, e4]
      · simp [fnF_eq, sSeq, sSet, sIf, sNil, F.then_nx, F.then_rt, R.lift_ok, R.bind_ok, F.fin_rt, dVar, dC, bin, fEq, fSub, fPlus, tB', asB_bl, dCB, aCons, aNil, dCall, arity, e1, e2, e3, hf, h1, e4]
  by_cases hd : d = 0
  · exact go _ (.inl ⟨hd, rfl⟩)
  · exact go _ (.inr ⟨hd, rfl⟩)
theorem box_get {S rest : Sto} (h : IsBox S rest) (q : Nat) : S[q + 2]? = rest[q]? := by
  obtain ⟨gs, ps, t, rfl, _⟩ := h
  rfl
noncomputable def uB : SDen := (sSeq (sSet 6 (dCall (arity 4 F_law_span) [] (aCons (dVar 0) (aCons (bin fIx (dVar 4) (dVar 5)) (aCons (bin fIx (dVar 2) (dVar 5)) (aCons (dVar 3) (aNil))))))) (sSeq (sSet 7 (dCall (arity 2 F_law_too_great) [] (aCons (bin fIx (dVar 4) (dVar 5)) (aCons (dVar 6) (aNil))))) (sIf (tB' (dNotN (dVar 7))) (sIf (tNot' (tB' (dCall (arity 5 F_law_refused) [] (aCons (dVar 1) (aCons (dVar 4) (aCons (bin fPlus (dVar 5) (dC (.int 1))) (aCons (dVar 6) (aCons (dVar 7) (aNil))))))))) (sRet (dC (.bl false))) (sNil)) (sIf (tB' (dCall (arity 3 F_law_in_span) [] (aCons (bin fIx (dVar 2) (dVar 5)) (aCons (dVar 3) (aCons (dVar 6) (aNil)))))) (sIf (tB' (dNotB true (dCall (arity 4 Fkind_in) [] (aCons (dVar 1) (aCons (dVar 4) (aCons (bin fPlus (dVar 5) (dC (.int 1))) (aCons (dVar 6) (aNil)))))))) (sRet (dC (.bl false))) (sNil)) (sIf (tB' (dNotB false (dCall (arity 4 Fkind_in) [] (aCons (dVar 1) (aCons (dVar 4) (aCons (bin fPlus (dVar 5) (dC (.int 1))) (aCons (dVar 6) (aNil)))))))) (sRet (dC (.bl false))) (sNil))))))
theorem tested_def : F_law_tested = fnF 8 (sSeq (sFor (iRng1 (aCons (dCB fLen (aCons (dVar 4) (aNil))) (aNil))) (gN 5) uB) (sRet (dC (.bl true)))) := rfl
theorem uB_eq {as cs F : List Int} {b : Int} {gs : List (Int × List Int)} {q i : Nat} {S rest : Sto} {y6 y7 : Option D} (hS : IsBox S rest) (hA : rest[q]? = some (.lst (dI as))) (K : Kd as cs b F gs) (hb : 0 < b ∧ b < 1000) (hl : as.length = cs.length) (hi : i < as.length) (ha : ∀ a ∈ as, 0 ≤ a) (hcs : ∀ c ∈ cs, 0 ≤ c ∧ c < 1000) :
    ∃ z6 z7 S', uB [some (.ref 1), some (kD (List.zipWith (wh b) as cs) F gs), some (.ref (q + 2)), some (.int b), some (tI cs), some (.int (i : Int)), y6, y7] S = .nx [some (.ref 1), some (kD (List.zipWith (wh b) as cs) F gs), some (.ref (q + 2)), some (.int b), some (tI cs), some (.int (i : Int)), z6, z7] S' ∧ IsBox S' rest := by
  have hc : i < cs.length := by omega
  obtain ⟨l, r, h, S1, e1, b1, hr, hh⟩ := span_eq (c := cs[i]) (a := as[i]) (b := b) hS (hcs _ (List.getElem_mem hc)) (ha _ (List.getElem_mem hi)) hb
  have ic := fun S => fIx_t (xs := dI cs) (A := i) (x := .int cs[i]) (by simp [hc]) S
  have ia : ∀ S, IsBox S rest → fIx (.ref (q + 2)) (.int (i : Int)) S = .ok (.int as[i]) S := fun S h => fIx_ref (by rw [box_get h]; exact hA) (by simp [hi])
  have ia0 := ia S hS
  have ia1 := ia S1 b1
  have te := too_eq (c := cs[i]) (l := l) (r := r) (h := h) (S := S1)
  cases ht : tooG cs[i] l h with
  | some lim =>
    have rf := refused_eq (r := r) (S := S1) (kd := kD (List.zipWith (wh b) as cs) F gs) hc ht
    refine ⟨some (sp l r h), some (.int lim), S1, ?_, b1⟩
    rw [ht] at te
    simp only [oD] at te
    generalize kD (List.zipWith (wh b) as cs) F gs = kd at *
    generalize sp l r h = s at *
    clear ia hS b1 hr hh ht K ha hcs hA hb
    generalize as[i] = a at *
    generalize cs[i] = c at *
    unfold uB
    walk_at "v"
  | none =>
    have kn := kind_in_eq (S := S1) K hb hl hi hc hr hh ht
    have is := in_span_eq (a := as[i]) (l := l) (r := r) (h := h) (S := S1) hb
    refine ⟨some (sp l r h), some .non, S1, ?_, b1⟩
    rw [ht] at te
    simp only [oD] at te
    generalize kD (List.zipWith (wh b) as cs) F gs = kd at *
    cases hB : inA as[i] b l r h with
    | true =>
      rw [hB] at kn is
      generalize sp l r h = s at *
      clear ia hS b1 hr hh ht K ha hcs hA hb hB
      generalize as[i] = a at *
      generalize cs[i] = c at *
      unfold uB
      walk_at "v"
    | false =>
      rw [hB] at kn is
      generalize sp l r h = s at *
      clear ia hS b1 hr hh ht K ha hcs hA hb hB
      generalize as[i] = a at *
      generalize cs[i] = c at *
      unfold uB
      walk_at "v"
theorem uB_go {as cs F : List Int} {b : Int} {gs : List (Int × List Int)} {q : Nat} {rest : Sto} (hA : rest[q]? = some (.lst (dI as))) (K : Kd as cs b F gs) (hb : 0 < b ∧ b < 1000) (hl : as.length = cs.length) (ha : ∀ a ∈ as, 0 ≤ a) (hcs : ∀ c ∈ cs, 0 ≤ c ∧ c < 1000) : ∀ (m i : Nat) (S : Sto) (y5 y6 y7 : Option D), i + m = as.length → IsBox S rest →
    ∃ z5 z6 z7 S', forGo (fun _ => True) (gN 5) uB (idx i m) [some (.ref 1), some (kD (List.zipWith (wh b) as cs) F gs), some (.ref (q + 2)), some (.int b), some (tI cs), y5, y6, y7] S = .nx [some (.ref 1), some (kD (List.zipWith (wh b) as cs) F gs), some (.ref (q + 2)), some (.int b), some (tI cs), z5, z6, z7] S' ∧ IsBox S' rest
  | 0, i, S, y5, y6, y7, _, hS => ⟨y5, y6, y7, S, forGo_nil trivial, hS⟩
  | m + 1, i, S, y5, y6, y7, hm, hS => by
    obtain ⟨z6, z7, S1, e1, b1⟩ := uB_eq (i := i) (y6 := y6) (y7 := y7) hS hA K hb hl (by omega) ha hcs
    obtain ⟨w5, w6, w7, S2, e2, b2⟩ := uB_go hA K hb hl ha hcs m (i + 1) S1 (some (.int (i : Int))) z6 z7 (by omega) b1
    refine ⟨w5, w6, w7, S2, ?_, b2⟩
    have eg : ∀ u a b c d e f g h, (gN 5).run u [a, b, c, d, e, f, g, h] = some [a, b, c, d, e, some u, g, h] := fun _ _ _ _ _ _ _ _ _ => rfl
    rw [idx_succ, forGo, if_pos trivial, eg]
    simp only [e1]
    exact e2
theorem tested_eq {as cs F : List Int} {b : Int} {gs : List (Int × List Int)} {q : Nat} {S rest : Sto} (hS : IsBox S rest) (hA : rest[q]? = some (.lst (dI as))) (K : Kd as cs b F gs) (hb : 0 < b ∧ b < 1000) (hl : as.length = cs.length) (h1 : as.length ≤ 100) (ha : ∀ a ∈ as, 0 ≤ a) (hcs : ∀ c ∈ cs, 0 ≤ c ∧ c < 1000) :
    ∃ S', F_law_tested [.ref 1, kD (List.zipWith (wh b) as cs) F gs, .ref (q + 2), .int b, tI cs] S = .ok (.bl true) S' ∧ IsBox S' rest := by
  obtain ⟨z5, z6, z7, S1, lp, b1⟩ := uB_go hA K hb hl ha hcs as.length 0 S none none none (by omega) hS
  refine ⟨S1, ?_, b1⟩
  have rg : fRng1 [.int (as.length : Int)] S = .ok (idx 0 as.length, fun _ => True) S := by
    rw [← rng_idx]
    exact fRng1_eq rfl (by omega)
  have ln : fLen [tI cs] S = .ok (.int (as.length : Int)) S := by simp [fLen, seqOf, hl]
  generalize kD (List.zipWith (wh b) as cs) F gs = kd at *
  rw [tested_def]
  clear hA K hb hl h1 ha hcs hS b1
  walk_at "u"
end K21
end

section
set_option Elab.async false
set_option linter.all false
set_option maxRecDepth 100000
set_option maxHeartbeats 1000000
open Z
local macro_rules | `(tactic| walk_at "z") => `(tactic| simp [fnF_eq, sSeq, sSet, sRet, sIf, sDrop, sNil, sAsg, sPar, sPut, F.then_nx, F.then_rt, F.then_bk, F.then_ct, F.then_ex, F.then_bad, F.then_ite, R.lift_ok, R.lift_ex, R.lift_bad, R.lift_ite, R.bind_ok, R.bind_ex, R.bind_bad, R.bind_ite, F.fin_nx, F.fin_rt, F.fin_ex, F.fin_bad, F.fin_ite, dVar, dC, bin, un, dAnd, dOr, dNot, tB', tAnd', tOr', tNot', dIf, asB_bl, aNil, aCons, dTup, mkT, dLst, mkL, fIx, seqOf, lstOf, L2.atI, L2.ixN, fAdd, fPlus, dSl, oSome, oNone, asI, fSl, fInT, fStr, fIntT, fFmt, dFmt, dJs, fPart, fStarts, fFind, fIsdig, fIsasc, fMulS, fSub, fMul, fLt, fGt, fLe, fGe, fEq, fDiv, fMod, fNeg, fPow, arity, dCall, dCallY, dCallK, noEx, dCB, fGcd, fLen, fMax2, fMin2, fInt, gN, gT, gAll, dIsi, fIsi, isTy, refOk, dIsN, dNotN, dIsB, dNotB, isNon, isBl, sz_lt, sz_le, sRaise, sTry, collapse_const, endX, dXf, dXis, dBM, dBM0, fPop, fApp, fRevM, fIns, fPopAt, tTr, fTr, aStar, dSoSet, sRetN, fTuple, fAbs, tyD, *])
local macro_rules | `(tactic| walk_at "y") => `(tactic| simp [fnF_eq, sSeq, sSet, sRet, sIf, sDrop, sNil, sAsg, sPar, sPut, F.then_nx, F.then_rt, F.then_bk, F.then_ct, F.then_ex, F.then_bad, F.then_ite, R.lift_ok, R.lift_ex, R.lift_bad, R.lift_ite, R.bind_ok, R.bind_ex, R.bind_bad, R.bind_ite, F.fin_nx, F.fin_rt, F.fin_ex, F.fin_bad, F.fin_ite, dVar, dC, bin, un, dAnd, dOr, dNot, tB', tAnd', tOr', tNot', dIf, asB_bl, aNil, aCons, dTup, mkT, dLst, mkL, fIx, seqOf, lstOf, L2.atI, L2.ixN, fAdd, fPlus, dSl, oSome, oNone, asI, fSl, fInT, fStr, fIntT, fFmt, dFmt, dJs, fPart, fStarts, fFind, fIsdig, fIsasc, fMulS, fSub, fMul, fLt, fGt, fLe, fGe, fEq, fDiv, fMod, fNeg, fPow, arity, dCall, dCallY, dCallK, noEx, dCB, fGcd, fLen, fMax2, fMin2, fInt, sFor, iRng1, fRng1, iSeq, asSeq, iAny, asAny, dIsi, fIsi, isTy, refOk, dIsN, dNotN, dIsB, dNotB, isNon, isBl, sz_lt, sz_le, sRaise, sTry, collapse_const, endX, dXf, dXis, dBM, dBM0, fPop, fApp, fRevM, fIns, fPopAt, tTr, fTr, aStar, dSoSet, sRetN, fTuple, fAbs, tyD, *])
local macro_rules | `(tactic| walk_at "v") => `(tactic| simp [fnF_eq, sSeq, sSet, sRet, sIf, sDrop, sNil, sAsg, sPar, sPut, F.then_nx, F.then_rt, F.then_bk, F.then_ct, F.then_ex, F.then_bad, F.then_ite, R.lift_ok, R.lift_ex, R.lift_bad, R.lift_ite, R.bind_ok, R.bind_ex, R.bind_bad, R.bind_ite, F.fin_nx, F.fin_rt, F.fin_ex, F.fin_bad, F.fin_ite, dVar, dC, bin, un, dAnd, dOr, dNot, tB', tAnd', tOr', tNot', dIf, asB_bl, aNil, aCons, dTup, mkT, dLst, mkL, seqOf, lstOf, fAdd, fPlus, dSl, oSome, oNone, asI, fInT, fStr, fIntT, fFmt, dFmt, dJs, fPart, fStarts, fFind, fIsdig, fIsasc, fMulS, fSub, fLt, fGt, fLe, fGe, fEq, fMod, fNeg, fPow, arity, dCall, dCallY, dCallK, noEx, dCB, fGcd, fMax2, fMin2, fInt, gN, gT, gAll, dIsi, fIsi, isTy, refOk, dIsN, dNotN, dIsB, dNotB, isNon, isBl, sz_lt, sz_le, sRaise, sTry, collapse_const, endX, dXf, dXis, dBM, dBM0, tTr, fTr, aStar, sRetN, fAbs, *])
local macro_rules | `(tactic| walk_at "u") => `(tactic| simp [fnF_eq, sSeq, sSet, sRet, sIf, sDrop, sNil, sAsg, sPar, sPut, F.then_nx, F.then_rt, F.then_bk, F.then_ct, F.then_ex, F.then_bad, F.then_ite, R.lift_ok, R.lift_ex, R.lift_bad, R.lift_ite, R.bind_ok, R.bind_ex, R.bind_bad, R.bind_ite, F.fin_nx, F.fin_rt, F.fin_ex, F.fin_bad, F.fin_ite, dVar, dC, bin, un, dAnd, dOr, dNot, tB', tAnd', tOr', tNot', dIf, asB_bl, aNil, aCons, dTup, mkT, dLst, mkL, seqOf, lstOf, fAdd, fPlus, dSl, oSome, oNone, asI, fInT, fStr, fIntT, fFmt, dFmt, dJs, fPart, fStarts, fFind, fIsdig, fIsasc, fMulS, fSub, fLt, fGt, fLe, fGe, fEq, fMod, fNeg, fPow, arity, dCall, dCallY, dCallK, noEx, dCB, fGcd, fMax2, fMin2, fInt, dIsi, fIsi, isTy, refOk, dIsN, dNotN, dIsB, dNotB, isNon, isBl, sz_lt, sz_le, sRaise, sTry, collapse_const, endX, dXf, dXis, dBM, dBM0, tTr, fTr, aStar, sRetN, fAbs, sFor, iAny, iRng1, iEn, *])
local macro_rules | `(tactic| walk_at "t") => `(tactic| simp [fnF_eq, sSeq, sSet, sRet, sIf, sDrop, sNil, sAsg, sPar, sPut, F.then_nx, F.then_rt, F.then_bk, F.then_ct, F.then_ex, F.then_bad, F.then_ite, R.lift_ok, R.lift_ex, R.lift_bad, R.lift_ite, R.bind_ok, R.bind_ex, R.bind_bad, R.bind_ite, F.fin_nx, F.fin_rt, F.fin_ex, F.fin_bad, F.fin_ite, dVar, dC, bin, un, dAnd, dOr, dNot, tB', tAnd', tOr', tNot', dIf, asB_bl, aNil, aCons, dTup, mkT, dLst, mkL, seqOf, lstOf, fAdd, dSl, oSome, oNone, asI, fInT, fStr, fIntT, fFmt, dFmt, dJs, fPart, fStarts, fFind, fIsdig, fIsasc, fMulS, fSub, fLt, fGt, fLe, fGe, fEq, fMod, fNeg, fPow, arity, dCall, dCallY, dCallK, noEx, dCB, fGcd, fMax2, fMin2, fInt, dIsi, fIsi, isTy, refOk, dIsN, dNotN, dIsB, dNotB, isNon, isBl, sz_lt, sz_le, sRaise, sTry, collapse_const, endX, dXf, dXis, dBM, dBM0, tTr, fTr, aStar, sRetN, fAbs, sFor, iAny, iRng1, iEn, *])
namespace K21
noncomputable def C1 : Den := (dLc false (iEn 1 (dVar 2)) [5, 6] (gT [gN 5, gN 6]) (tYesD) (dIf (tB' (bin (fInT false) (dVar 5) (dVar 1))) (dC (.int 0)) (dVar 6)))
noncomputable def C2 : Den := (dLc false (iAny (dSl false (dVar 3) (oSome (dC (.int 1))) (oNone))) [8] (gN 8) (tYesD) (dCB fTuple (aCons (dLc false (iAny (dVar 8)) [5] (gN 5) (tB' (bin (fInT true) (dVar 5) (dVar 1))) (dVar 5)) (aNil))))
noncomputable def C3 : Den := (dLc false (iAny (dVar 7)) [8] (gN 8) (tTr (dVar 8)) (dVar 8))
theorem restart_def : Frestart_kind = fnF 9 (sSeq (sAsg (gT [gN 2, gN 3]) (dVar 0)) (sSeq (sSet 4 (dCB fTuple (aCons C1 (aNil)))) (sSeq (sSet 7 C2) (sRet (dTup (aCons (dVar 4) (aCons (dTup (aCons (dCB fTuple (aCons (dSoSet (bin fPlus (bin fIx (dVar 3) (dC (.int 0))) (dVar 1))) (aNil))) (aStar C3 (aNil)))) (aNil)))))))) := rfl
def zw (cl : List Int) : Int → List Int → List Int
  | _, [] => []
  | k, w :: W => (if k ∈ cl then 0 else w) :: zw cl (k + 1) W
def f1 (cl : List Int) (x : D) : D := match x with
  | .tup [.int k, .int w] => .int (if k ∈ cl then 0 else w)
  | _ => .non
theorem f1_map (cl : List Int) : ∀ (W : List Int) (k : Int), (enuD k (dI W)).map (f1 cl) = dI (zw cl k W)
  | [], _ => rfl
  | w :: W, k => by
    have ih := f1_map cl W (k + 1)
    show f1 cl (.tup [.int k, .int w]) :: (enuD (k + 1) (dI W)).map (f1 cl) = _
    rw [ih]; rfl
theorem enu_mem : ∀ (W : List Int) (k : Int) (x : D), x ∈ enuD k (dI W) → ∃ j w, x = .tup [.int j, .int w]
  | [], _, _, h => by cases h
  | w :: W, k, x, h => by
    rcases List.mem_cons.mp h with rfl | h
    · exact ⟨k, w, rfl⟩
    · exact enu_mem W (k + 1) x h
section
variable {S : Sto} {cl : List Int} {env : Env}
theorem C1_eq {W : List Int} (h2 : env[2]? = some (some (tI W))) (h1 : env[1]? = some (some (tI cl))) (hl : env.length = 9) (hw : W.length ≤ 100) : C1 env S = .ok (.lst (dI (zw cl 1 W))) S := by
  have src : iEn 1 (dVar 2) env S = .ok (enuD 1 (dI W), fun _ => True) S := by simp [iEn, dVar, h2, R.bind_ok]
  unfold C1
  rw [dLc_map (f1 cl) src trivial (by rw [enuD_len, List.length_map]; omega) fun x hx => ?_, f1_map]
  · rfl
  · obtain ⟨j, w, rfl⟩ := enu_mem W 1 x hx
    match env, hl with
    | [a0, a1, a2, a3, a4, a5, a6, a7, a8], _ =>
      have h1' : a1 = some (tI cl) := by simpa using h1
      subst h1'
      refine ⟨[a0, some (tI cl), a2, a3, a4, some (.int j), some (.int w), a7, a8], rfl, ?_⟩
      have e := in_t false j cl S
      by_cases hj : j ∈ cl
      · rw [decide_eq_true hj] at e
        have v : f1 cl (.tup [.int j, .int w]) = .int 0 := by simp [f1, hj]
        rw [v]
        simp [dIf, tB', bin, dVar, dC, R.bind_ok, asB_bl, e]
      · rw [decide_eq_false hj] at e
        have v : f1 cl (.tup [.int j, .int w]) = .int w := by simp [f1, hj]
        rw [v]
        simp [dIf, tB', bin, dVar, dC, R.bind_ok, asB_bl, e]
abbrev out (cl : List Int) (k : Int) : Bool := !decide (k ∈ cl)
def pI (cl : List Int) (x : D) : Bool := match x with
  | .int k => out cl k
  | _ => false
def f2 (cl : List Int) (x : D) : D := match x with
  | .tup xs => .tup (xs.filter (pI cl))
  | _ => .non
theorem pI_filter (cl : List Int) (l : List Int) : (dI l).filter (pI cl) = dI (l.filter (out cl)) := by
  rw [List.filter_map]; rfl
theorem inner_eq {l : List Int} {a0 a2 a3 a4 a5 a6 a7 : Option D} (hl : l.length ≤ 100) : dLc false (iAny (dVar 8)) [5] (gN 5) (tB' (bin (fInT true) (dVar 5) (dVar 1))) (dVar 5) [a0, some (tI cl), a2, a3, a4, a5, a6, a7, some (tI l)] S = .ok (.lst (dI (l.filter (out cl)))) S := by
  have src : iAny (dVar 8) [a0, some (tI cl), a2, a3, a4, a5, a6, a7, some (tI l)] S = .ok (dI l, fun _ => True) S := rfl
  rw [dLc_fm (pI cl) id src trivial (by rw [List.length_map]; omega) fun x hx => ?_, List.map_id, pI_filter]
  · rfl
  · obtain ⟨j, hj, rfl⟩ := List.mem_map.mp hx
    refine ⟨[a0, some (tI cl), a2, a3, a4, some (.int j), a6, a7, some (tI l)], rfl, ?_, fun _ => rfl⟩
    have e := in_t true j cl S
    simp only [if_true] at e
    simp [tB', bin, dVar, R.bind_ok, e, asB_bl, pI]
theorem C2_eq {F : List Int} {gs : List (Int × List Int)} (h3 : env[3]? = some (some (.tup (tI F :: gs.map fun e => tI e.2)))) (h1 : env[1]? = some (some (tI cl))) (hl : env.length = 9) (hg : gs.length ≤ 100) (hll : ∀ e ∈ gs, e.2.length ≤ 100) :
    C2 env S = .ok (.lst (gs.map fun e => tI (e.2.filter (out cl)))) S := by
  have cut : cutD (tI F :: gs.map fun e => tI e.2) (some 1) none = gs.map fun e => tI e.2 := by
    simp [cutD, HT.sIx]
    rw [List.take_of_length_le (by simp)]
  have nw : ¬ (HT.sIx (tI F :: gs.map fun e => tI e.2).length 0 (some 1) = 0 ∧ HT.sIx (tI F :: gs.map fun e => tI e.2).length (tI F :: gs.map fun e => tI e.2).length none = (tI F :: gs.map fun e => tI e.2).length) := by
    simp [HT.sIx]
  have sl : fSl false (.tup (tI F :: gs.map fun e => tI e.2)) (some 1) none S = .ok (.tup (gs.map fun e => tI e.2)) S := by
    unfold fSl
    simp only
    rw [if_neg nw, cut]
  have src : iAny (dSl false (dVar 3) (oSome (dC (.int 1))) (oNone)) env S = .ok (gs.map (fun e => tI e.2), fun _ => True) S := by
    simp only [iAny, dSl, dVar, h3, oSome, oNone, dC, asI, R.bind_ok, sl]
    rfl
  unfold C2
  rw [dLc_map (f2 cl) src trivial (by rw [List.length_map]; omega) fun x hx => ?_]
  · have : (gs.map fun e => tI e.2).map (f2 cl) = gs.map fun e => tI (e.2.filter (out cl)) := by
      rw [List.map_map]
      refine List.map_congr_left fun e _ => ?_
      show D.tup ((dI e.2).filter (pI cl)) = _
      rw [pI_filter]
    rw [this]; rfl
  · obtain ⟨e, he, rfl⟩ := List.mem_map.mp hx
    clear src
    match env, hl, h1 with
    | [a0, a1, a2, a3, a4, a5, a6, a7, a8], _, h1 =>
      have h1' : a1 = some (tI cl) := by simpa using h1
      subst h1'
      refine ⟨[a0, some (tI cl), a2, a3, a4, a5, a6, a7, some (tI e.2)], rfl, ?_⟩
      have ie := inner_eq (S := S) (cl := cl) (a0 := a0) (a2 := a2) (a3 := a3) (a4 := a4) (a5 := a5) (a6 := a6) (a7 := a7) (hll e he)
      have ft := fTup_lst (xs := dI (e.2.filter (out cl))) (S := S) (by
        rw [List.length_map]
        have := List.length_filter_le (out cl) e.2
        have := hll e he
        omega)
      simp only [dCB, aCons, aNil, ie, R.bind_ok, ft]
      show _ = R.ok (D.tup ((dI e.2).filter (pI cl))) S
      rw [pI_filter]
def pN (x : D) : Bool := match x with
  | .tup xs => !xs.isEmpty
  | _ => false
theorem C3_eq {xs : List (List Int)} (h7 : env[7]? = some (some (.lst (xs.map tI)))) (hl : env.length = 9) (hx : xs.length ≤ 100) : C3 env S = .ok (.lst ((xs.filter fun l => !l.isEmpty).map tI)) S := by
  have src : iAny (dVar 7) env S = .ok (xs.map tI, fun _ => True) S := by
    simp only [iAny, dVar, h7, R.bind_ok]
    rfl
  unfold C3
  rw [dLc_fm pN id src trivial (by rw [List.length_map]; omega) fun x hx => ?_, List.map_id, List.filter_map]
  · have : (pN ∘ tI) = fun l => !l.isEmpty := by
      funext l
      cases l <;> rfl
    rw [this]; rfl
  · obtain ⟨l, hl', rfl⟩ := List.mem_map.mp hx
    match env, hl with
    | [a0, a1, a2, a3, a4, a5, a6, a7, a8], _ => exact ⟨[a0, a1, a2, a3, a4, a5, a6, a7, some (tI l)], rfl, rfl, fun _ => rfl⟩
end
def less (cl : List Int) (gs : List (Int × List Int)) : List (Int × List Int) := (gs.map fun e => (e.1, e.2.filter (out cl))).filter fun e => !e.2.isEmpty
theorem less_map (cl : List Int) (gs : List (Int × List Int)) : ((gs.map fun e => e.2.filter (out cl)).filter fun l => !l.isEmpty) = (less cl gs).map (·.2) := by
  unfold less
  have : (gs.map fun e => e.2.filter (out cl)) = (gs.map fun e => (e.1, e.2.filter (out cl))).map (·.2) := by rw [List.map_map]; rfl
  rw [this, List.filter_map]; rfl
theorem restart_eq {cl W F : List Int} {gs : List (Int × List Int)} {S : Sto} (hw : W.length ≤ 20) (hF : F.length ≤ 20) (hc : cl.length ≤ 20) (hg : gs.length ≤ 20) (hll : ∀ e ∈ gs, e.2.length ≤ 20) :
    Frestart_kind [kD W F gs, tI cl] S = .ok (kD (zw cl 1 W) (sset (F ++ cl)) (less cl gs)) S := by
  have zl : ∀ (W : List Int) (k : Int), (zw cl k W).length = W.length := by
    intro W
    induction W with
    | nil => intro k; rfl
    | cons w W ih => intro k; simp [zw, ih]
  have c1 := C1_eq (S := S) (cl := cl) (W := W) (env := [some (kD W F gs), some (tI cl), some (tI W), some (.tup (tI F :: gs.map fun e => tI e.2)), none, none, none, none, none]) rfl rfl rfl (by omega)
  have t1 := fTup_lst (xs := dI (zw cl 1 W)) (S := S) (by rw [List.length_map, zl]; omega)
  have c2 := C2_eq (S := S) (cl := cl) (F := F) (gs := gs) (env := [some (kD W F gs), some (tI cl), some (tI W), some (.tup (tI F :: gs.map fun e => tI e.2)), some (tI (zw cl 1 W)), none, none, none, none]) rfl rfl rfl (by omega) (fun e he => by have := hll e he; omega)
  have mm : (gs.map fun e => tI (e.2.filter (out cl))) = (gs.map fun e => e.2.filter (out cl)).map tI := by rw [List.map_map]; rfl
  rw [mm] at c2
  have c3 := C3_eq (S := S) (xs := gs.map fun e => e.2.filter (out cl)) (env := [some (kD W F gs), some (tI cl), some (tI W), some (.tup (tI F :: gs.map fun e => tI e.2)), some (tI (zw cl 1 W)), none, none, some (.lst ((gs.map fun e => e.2.filter (out cl)).map tI)), none]) rfl rfl (by rw [List.length_map]; omega)
  have l2 : ((gs.map fun e => e.2.filter (out cl)).filter fun l => !l.isEmpty).map tI = (less cl gs).map (tI ∘ fun x => x.2) := by rw [less_map, List.map_map]
  rw [l2] at c3
  have lg : (less cl gs).length ≤ 20 := by
    unfold less
    refine Nat.le_trans (List.length_filter_le _ _) ?_
    rw [List.length_map]; exact hg
  have sl : (sset (F ++ cl)).length ≤ 60 := by
    have il : ∀ (k : Int) (l : List Int), (insS k l).length ≤ l.length + 1 := by
      intro k l
      induction l with
      | nil => simp [insS]
      | cons x l ih =>
        unfold insS
        split
        · simp
        · split
          · simp
          · simp only [List.length_cons]; omega
    have : ∀ l : List Int, (sset l).length ≤ l.length := by
      intro l
      induction l with
      | nil => simp [sset]
      | cons x l ih =>
        have := il x (sset l)
        show (insS x (sset l)).length ≤ _
        simp only [List.length_cons]; omega
    have := this (F ++ cl)
    rw [List.length_append] at this
    omega
  have i0 : fIx (.tup (tI F :: gs.map fun e => tI e.2)) (.int 0) S = .ok (tI F) S := fIx_t (A := 0) rfl S
  have pl : fPlus (tI F) (tI cl) S = .ok (tI (F ++ cl)) S := by
    have f : Fit (F.length + cl.length) := of_eq_true (sz_le (by omega))
    simp [fPlus, mkT, f]
  have sd : ∀ env, (bin fPlus (bin fIx (dVar 3) (dC (.int 0))) (dVar 1)) env S = .ok (tI (F ++ cl)) S → dSoSet (bin fPlus (bin fIx (dVar 3) (dC (.int 0))) (dVar 1)) env S = .ok (.lst (dI (sset (F ++ cl)))) S := fun env he => by
    have h60 : (F ++ cl).length < 60 := by rw [List.length_append]; omega
    unfold dSoSet
    rw [he, R.bind_ok]
    simp only [intsD_map]
    rw [if_pos h60]
  have sd2 := sd [some (kD W F gs), some (tI cl), some (tI W), some (.tup (tI F :: gs.map fun e => tI e.2)), some (tI (zw cl 1 W)), none, none, some (.lst ((gs.map fun e => e.2.filter (out cl)).map tI)), none] (by simp only [bin, dVar, dC, List.getElem?_cons_succ, List.getElem?_cons_zero, R.bind_ok, i0, pl])
  have t2 := fTup_lst (xs := dI (sset (F ++ cl))) (S := S) (by rw [List.length_map]; omega)
  have asg : (gT [gN 2, gN 3]).run (kD W F gs) [some (kD W F gs), some (tI cl), none, none, none, none, none, none, none] = some [some (kD W F gs), some (tI cl), some (tI W), some (.tup (tI F :: gs.map fun e => tI e.2)), none, none, none, none, none] := rfl
  have lf : Fit ((less cl gs).length + 1) := of_eq_true (sz_le (by omega))
  have rs : kD (zw cl 1 W) (sset (F ++ cl)) (less cl gs) = .tup [tI (zw cl 1 W), .tup (tI (sset (F ++ cl)) :: (less cl gs).map (tI ∘ fun x => x.2))] := rfl
  rw [rs]
  have lm : ((less cl gs).map (tI ∘ fun x => x.2)).length = (less cl gs).length := List.length_map _
  rw [restart_def]
  generalize dSoSet (bin fPlus (bin fIx (dVar 3) (dC (.int 0))) (dVar 1)) = SD at *
  generalize (less cl gs).map (tI ∘ fun x => x.2) = ll at *
  rw [← lm] at lf
  generalize kD W F gs = kd at *
  generalize D.tup (tI F :: gs.map fun e => tI e.2) = od at *
  generalize (gs.map fun e => e.2.filter (out cl)).map tI = ot at *
  clear sd lg sl hw hF hc hg hll zl mm i0 pl lm rs
  simp [fnF_eq, sSeq, sSet, sRet, sAsg, Z.F.then_nx, Z.F.then_rt, R.lift_ok, R.bind_ok, Z.F.fin_rt, dVar, dCB, aCons, aNil, aStar, dTup, mkT, seqOf, sz_le, asg, c1, t1, c2, c3, sd2, t2, lf]
end K21
end

section
set_option Elab.async false
set_option linter.all false
set_option maxRecDepth 100000
set_option maxHeartbeats 1000000
open Z
local macro_rules | `(tactic| walk_at "z") => `(tactic| simp [fnF_eq, sSeq, sSet, sRet, sIf, sDrop, sNil, sAsg, sPar, sPut, F.then_nx, F.then_rt, F.then_bk, F.then_ct, F.then_ex, F.then_bad, F.then_ite, R.lift_ok, R.lift_ex, R.lift_bad, R.lift_ite, R.bind_ok, R.bind_ex, R.bind_bad, R.bind_ite, F.fin_nx, F.fin_rt, F.fin_ex, F.fin_bad, F.fin_ite, dVar, dC, bin, un, dAnd, dOr, dNot, tB', tAnd', tOr', tNot', dIf, asB_bl, aNil, aCons, dTup, mkT, dLst, mkL, fIx, seqOf, lstOf, L2.atI, L2.ixN, fAdd, fPlus, dSl, oSome, oNone, asI, fSl, fInT, fStr, fIntT, fFmt, dFmt, dJs, fPart, fStarts, fFind, fIsdig, fIsasc, fMulS, fSub, fMul, fLt, fGt, fLe, fGe, fEq, fDiv, fMod, fNeg, fPow, arity, dCall, dCallY, dCallK, noEx, dCB, fGcd, fLen, fMax2, fMin2, fInt, gN, gT, gAll, dIsi, fIsi, isTy, refOk, dIsN, dNotN, dIsB, dNotB, isNon, isBl, sz_lt, sz_le, sRaise, sTry, collapse_const, endX, dXf, dXis, dBM, dBM0, fPop, fApp, fRevM, fIns, fPopAt, tTr, fTr, aStar, dSoSet, sRetN, fTuple, fAbs, tyD, *])
local macro_rules | `(tactic| walk_at "y") => `(tactic| simp [fnF_eq, sSeq, sSet, sRet, sIf, sDrop, sNil, sAsg, sPar, sPut, F.then_nx, F.then_rt, F.then_bk, F.then_ct, F.then_ex, F.then_bad, F.then_ite, R.lift_ok, R.lift_ex, R.lift_bad, R.lift_ite, R.bind_ok, R.bind_ex, R.bind_bad, R.bind_ite, F.fin_nx, F.fin_rt, F.fin_ex, F.fin_bad, F.fin_ite, dVar, dC, bin, un, dAnd, dOr, dNot, tB', tAnd', tOr', tNot', dIf, asB_bl, aNil, aCons, dTup, mkT, dLst, mkL, fIx, seqOf, lstOf, L2.atI, L2.ixN, fAdd, fPlus, dSl, oSome, oNone, asI, fSl, fInT, fStr, fIntT, fFmt, dFmt, dJs, fPart, fStarts, fFind, fIsdig, fIsasc, fMulS, fSub, fMul, fLt, fGt, fLe, fGe, fEq, fDiv, fMod, fNeg, fPow, arity, dCall, dCallY, dCallK, noEx, dCB, fGcd, fLen, fMax2, fMin2, fInt, sFor, iRng1, fRng1, iSeq, asSeq, iAny, asAny, dIsi, fIsi, isTy, refOk, dIsN, dNotN, dIsB, dNotB, isNon, isBl, sz_lt, sz_le, sRaise, sTry, collapse_const, endX, dXf, dXis, dBM, dBM0, fPop, fApp, fRevM, fIns, fPopAt, tTr, fTr, aStar, dSoSet, sRetN, fTuple, fAbs, tyD, *])
local macro_rules | `(tactic| walk_at "v") => `(tactic| simp [fnF_eq, sSeq, sSet, sRet, sIf, sDrop, sNil, sAsg, sPar, sPut, F.then_nx, F.then_rt, F.then_bk, F.then_ct, F.then_ex, F.then_bad, F.then_ite, R.lift_ok, R.lift_ex, R.lift_bad, R.lift_ite, R.bind_ok, R.bind_ex, R.bind_bad, R.bind_ite, F.fin_nx, F.fin_rt, F.fin_ex, F.fin_bad, F.fin_ite, dVar, dC, bin, un, dAnd, dOr, dNot, tB', tAnd', tOr', tNot', dIf, asB_bl, aNil, aCons, dTup, mkT, dLst, mkL, seqOf, lstOf, fAdd, fPlus, dSl, oSome, oNone, asI, fInT, fStr, fIntT, fFmt, dFmt, dJs, fPart, fStarts, fFind, fIsdig, fIsasc, fMulS, fSub, fLt, fGt, fLe, fGe, fEq, fMod, fNeg, fPow, arity, dCall, dCallY, dCallK, noEx, dCB, fGcd, fMax2, fMin2, fInt, gN, gT, gAll, dIsi, fIsi, isTy, refOk, dIsN, dNotN, dIsB, dNotB, isNon, isBl, sz_lt, sz_le, sRaise, sTry, collapse_const, endX, dXf, dXis, dBM, dBM0, tTr, fTr, aStar, sRetN, fAbs, *])
local macro_rules | `(tactic| walk_at "u") => `(tactic| simp [fnF_eq, sSeq, sSet, sRet, sIf, sDrop, sNil, sAsg, sPar, sPut, F.then_nx, F.then_rt, F.then_bk, F.then_ct, F.then_ex, F.then_bad, F.then_ite, R.lift_ok, R.lift_ex, R.lift_bad, R.lift_ite, R.bind_ok, R.bind_ex, R.bind_bad, R.bind_ite, F.fin_nx, F.fin_rt, F.fin_ex, F.fin_bad, F.fin_ite, dVar, dC, bin, un, dAnd, dOr, dNot, tB', tAnd', tOr', tNot', dIf, asB_bl, aNil, aCons, dTup, mkT, dLst, mkL, seqOf, lstOf, fAdd, fPlus, dSl, oSome, oNone, asI, fInT, fStr, fIntT, fFmt, dFmt, dJs, fPart, fStarts, fFind, fIsdig, fIsasc, fMulS, fSub, fLt, fGt, fLe, fGe, fEq, fMod, fNeg, fPow, arity, dCall, dCallY, dCallK, noEx, dCB, fGcd, fMax2, fMin2, fInt, dIsi, fIsi, isTy, refOk, dIsN, dNotN, dIsB, dNotB, isNon, isBl, sz_lt, sz_le, sRaise, sTry, collapse_const, endX, dXf, dXis, dBM, dBM0, tTr, fTr, aStar, sRetN, fAbs, sFor, iAny, iRng1, iEn, *])
local macro_rules | `(tactic| walk_at "t") => `(tactic| simp [fnF_eq, sSeq, sSet, sRet, sIf, sDrop, sNil, sAsg, sPar, sPut, F.then_nx, F.then_rt, F.then_bk, F.then_ct, F.then_ex, F.then_bad, F.then_ite, R.lift_ok, R.lift_ex, R.lift_bad, R.lift_ite, R.bind_ok, R.bind_ex, R.bind_bad, R.bind_ite, F.fin_nx, F.fin_rt, F.fin_ex, F.fin_bad, F.fin_ite, dVar, dC, bin, un, dAnd, dOr, dNot, tB', tAnd', tOr', tNot', dIf, asB_bl, aNil, aCons, dTup, mkT, dLst, mkL, seqOf, lstOf, fAdd, dSl, oSome, oNone, asI, fInT, fStr, fIntT, fFmt, dFmt, dJs, fPart, fStarts, fFind, fIsdig, fIsasc, fMulS, fSub, fLt, fGt, fLe, fGe, fEq, fMod, fNeg, fPow, arity, dCall, dCallY, dCallK, noEx, dCB, fGcd, fMax2, fMin2, fInt, dIsi, fIsi, isTy, refOk, dIsN, dNotN, dIsB, dNotB, isNon, isBl, sz_lt, sz_le, sRaise, sTry, collapse_const, endX, dXf, dXis, dBM, dBM0, tTr, fTr, aStar, sRetN, fAbs, sFor, iAny, iRng1, iEn, *])
namespace K21
def zset (cl as : List Int) : List Int := cl.foldl (fun as k => as.set (k - 1).toNat 0) as
theorem zset_len : ∀ (cl as : List Int), (zset cl as).length = as.length
  | [], _ => rfl
  | k :: cl, as => by
    show (zset cl (as.set (k - 1).toNat 0)).length = _
    rw [zset_len, List.length_set]
theorem av_set {as : List Int} {j : Nat} {k : Int} : av (as.set j 0) k = if j = (k - 1).toNat then 0 else av as k := by
  unfold av List.getD
  rw [List.getElem?_set]
  by_cases h : j = (k - 1).toNat
  · rw [if_pos h, if_pos h]
    by_cases h2 : (k - 1).toNat < as.length
    · subst h; rw [if_pos h2]; rfl
    · subst h; rw [if_neg h2]; rfl
  · rw [if_neg h, if_neg h]
theorem zset_av : ∀ (cl as : List Int) (k : Int), (∀ c ∈ cl, 1 ≤ c) → 1 ≤ k → av (zset cl as) k = if k ∈ cl then 0 else av as k
  | [], as, k, _, _ => by simp [zset]
  | c :: cl, as, k, h, hk => by
    have ih := zset_av cl (as.set (c - 1).toNat 0) k (fun x hx => h x (List.mem_cons_of_mem _ hx)) hk
    show av (zset cl (as.set (c - 1).toNat 0)) k = _
    rw [ih, av_set]
    have hc := h c (by simp)
    by_cases h1 : k ∈ cl
    · rw [if_pos h1, if_pos (List.mem_cons_of_mem _ h1)]
    · rw [if_neg h1]
      by_cases h2 : k = c
      · subst h2; simp
      · have : ¬ (c - 1).toNat = (k - 1).toNat := by omega
        rw [if_neg this, if_neg]
        simp [h1, h2]
theorem zw_get (cl : List Int) : ∀ (W : List Int) (k : Int) (i : Nat), (zw cl k W)[i]? = (W[i]?).map fun w => if k + (i : Int) ∈ cl then 0 else w
  | [], k, i => by simp [zw]
  | w :: W, k, 0 => by simp [zw]
  | w :: W, k, i + 1 => by
    have ih := zw_get cl W (k + 1) i
    have e : k + 1 + (i : Int) = k + ((i + 1 : Nat) : Int) := by omega
    rw [e] at ih
    simpa [zw] using ih
theorem av_get {as : List Int} {i : Nat} (h : i < as.length) : av as (1 + (i : Int)) = as[i] := by
  unfold av
  have : (1 + (i : Int) - 1).toNat = i := by omega
  rw [this]; simp [List.getD, h]
theorem av_nn {cs : List Int} (h : ∀ c ∈ cs, 0 ≤ c) (k : Int) : 0 ≤ av cs k := by
  unfold av List.getD
  cases e : cs[(k - 1).toNat]? with
  | none => simp
  | some x => exact h x (List.mem_of_getElem? e)
section
variable {as cs F F2 cl cl' : List Int} {b : Int} {gs gs2 : List (Int × List Int)}
theorem zero_ok (hb : 0 < b) (hcs : ∀ c ∈ cs, 0 ≤ c) (k : Int) : ¬ av cs k * b < 0 := by
  have := Int.mul_nonneg (av_nn hcs k) (Int.le_of_lt hb)
  omega
theorem pf_z (hb : 0 < b) (hcs : ∀ c ∈ cs, 0 ≤ c) (hcl : ∀ c ∈ cl, 1 ≤ c ∧ c ≤ (as.length : Int)) (k : Int) : PF (zset cl as) cs b as.length k ↔ PF as cs b as.length k ∨ k ∈ cl := by
  unfold PF
  constructor
  · rintro ⟨h1, h2, h3, h4⟩
    rw [zset_av cl as k (fun c hc => (hcl c hc).1) h1] at h3 h4
    by_cases h : k ∈ cl
    · exact .inr h
    · rw [if_neg h] at h3 h4
      exact .inl ⟨h1, h2, h3, h4⟩
  · intro h
    by_cases hk : k ∈ cl
    · obtain ⟨h1, h2⟩ := hcl k hk
      rw [zset_av cl as k (fun c hc => (hcl c hc).1) h1, if_pos hk]
      exact ⟨h1, h2, zero_ok hb hcs k, by simp⟩
    · rcases h with ⟨h1, h2, h3, h4⟩ | h
      · rw [zset_av cl as k (fun c hc => (hcl c hc).1) h1, if_neg hk]
        exact ⟨h1, h2, h3, h4⟩
      · exact absurd h hk
theorem pg_z (hb : 0 < b) (hcl : ∀ c ∈ cl, 1 ≤ c ∧ c ≤ (as.length : Int)) (hm : ∀ k, k ∈ cl' ↔ k ∈ cl) (k : Int) : (PG as cs b as.length k ∧ out cl' k = true) ↔ PG (zset cl as) cs b as.length k := by
  have ho : out cl' k = true ↔ k ∉ cl := by
    unfold out
    rw [Bool.not_eq_true', decide_eq_false_iff_not, hm]
  rw [ho]
  unfold PG
  constructor
  · rintro ⟨⟨h1, h2, h3, h4⟩, hk⟩
    rw [zset_av cl as k (fun c hc => (hcl c hc).1) h1, if_neg hk]
    exact ⟨h1, h2, h3, h4⟩
  · rintro ⟨h1, h2, h3, h4⟩
    rw [zset_av cl as k (fun c hc => (hcl c hc).1) h1] at h3 h4
    by_cases hk : k ∈ cl
    · rw [if_pos hk] at h4
      exact absurd (by simp) h4
    · rw [if_neg hk] at h3 h4
      exact ⟨⟨h1, h2, h3, h4⟩, hk⟩
theorem agree (K : Kd as cs b F gs) (K2 : Kd (zset cl as) cs b F2 gs2) (hl : as.length = cs.length) (hb : 0 < b) (hcs : ∀ c ∈ cs, 0 ≤ c) (hcl : ∀ c ∈ cl, 1 ≤ c ∧ c ≤ (as.length : Int)) (hm : ∀ k, k ∈ cl' ↔ k ∈ cl) :
    kD (zw cl' 1 (List.zipWith (wh b) as cs)) (sset (F ++ cl')) (less cl' gs) = kD (List.zipWith (wh b) (zset cl as) cs) F2 gs2 := by
  have z := zset_len cl as
  have e1 : zw cl' 1 (List.zipWith (wh b) as cs) = List.zipWith (wh b) (zset cl as) cs := by
    refine List.ext_getElem? fun i => ?_
    rw [zw_get]
    by_cases hi : i < as.length
    · have h1 : i < (List.zipWith (wh b) as cs).length := by rw [List.length_zipWith]; omega
      have h2 : i < (List.zipWith (wh b) (zset cl as) cs).length := by rw [List.length_zipWith, z]; omega
      rw [List.getElem?_eq_getElem h1, List.getElem?_eq_getElem h2, List.getElem_zipWith, List.getElem_zipWith, Option.map_some]
      have v := zset_av cl as (1 + (i : Int)) (fun c hc => (hcl c hc).1) (by omega)
      rw [av_get (by omega), av_get hi] at v
      rw [v]
      congr 1
      by_cases hk : 1 + (i : Int) ∈ cl
      · rw [if_pos ((hm _).mpr hk), if_pos hk]
        have nn := Int.mul_nonneg (hcs _ (List.getElem_mem (by omega : i < cs.length))) (Int.le_of_lt hb)
        have : ¬ cs[i] * b < 0 := by omega
        unfold wh
        rw [if_neg this]; simp
      · rw [if_neg (fun h => hk ((hm _).mp h)), if_neg hk]
    · have h1 : (List.zipWith (wh b) as cs).length ≤ i := by rw [List.length_zipWith]; omega
      have h2 : (List.zipWith (wh b) (zset cl as) cs).length ≤ i := by rw [List.length_zipWith, z]; omega
      rw [List.getElem?_eq_none h1, List.getElem?_eq_none h2]; rfl
  have e2 : sset (F ++ cl') = F2 := by
    refine pw_uniq sset_pw K2.fp fun j => ?_
    rw [sset_mem, List.mem_append, K.fm, hm, K2.fm, z, pf_z hb hcs hcl]
  have e3 : less cl' gs = gs2 := by
    refine (K.grp.less (out cl')).uniq K2.grp (fun k => by rw [z]; exact pg_z hb hcl hm k) fun k hk => ?_
    have h1 := hk.1.1
    have hn : k ∉ cl := by
      have := hk.2
      unfold out at this
      rw [Bool.not_eq_true', decide_eq_false_iff_not, hm] at this
      exact this
    unfold fr
    rw [zset_av cl as k (fun c hc => (hcl c hc).1) h1, if_neg hn]
  rw [e1, e2, e3]
end
end K21
end

section
set_option Elab.async false
set_option linter.all false
set_option maxRecDepth 100000
set_option maxHeartbeats 1000000
open Z
local macro_rules | `(tactic| walk_at "z") => `(tactic| simp [fnF_eq, sSeq, sSet, sRet, sIf, sDrop, sNil, sAsg, sPar, sPut, F.then_nx, F.then_rt, F.then_bk, F.then_ct, F.then_ex, F.then_bad, F.then_ite, R.lift_ok, R.lift_ex, R.lift_bad, R.lift_ite, R.bind_ok, R.bind_ex, R.bind_bad, R.bind_ite, F.fin_nx, F.fin_rt, F.fin_ex, F.fin_bad, F.fin_ite, dVar, dC, bin, un, dAnd, dOr, dNot, tB', tAnd', tOr', tNot', dIf, asB_bl, aNil, aCons, dTup, mkT, dLst, mkL, fIx, seqOf, lstOf, L2.atI, L2.ixN, fAdd, fPlus, dSl, oSome, oNone, asI, fSl, fInT, fStr, fIntT, fFmt, dFmt, dJs, fPart, fStarts, fFind, fIsdig, fIsasc, fMulS, fSub, fMul, fLt, fGt, fLe, fGe, fEq, fDiv, fMod, fNeg, fPow, arity, dCall, dCallY, dCallK, noEx, dCB, fGcd, fLen, fMax2, fMin2, fInt, gN, gT, gAll, dIsi, fIsi, isTy, refOk, dIsN, dNotN, dIsB, dNotB, isNon, isBl, sz_lt, sz_le, sRaise, sTry, collapse_const, endX, dXf, dXis, dBM, dBM0, fPop, fApp, fRevM, fIns, fPopAt, tTr, fTr, aStar, dSoSet, sRetN, fTuple, fAbs, tyD, *])
local macro_rules | `(tactic| walk_at "y") => `(tactic| simp [fnF_eq, sSeq, sSet, sRet, sIf, sDrop, sNil, sAsg, sPar, sPut, F.then_nx, F.then_rt, F.then_bk, F.then_ct, F.then_ex, F.then_bad, F.then_ite, R.lift_ok, R.lift_ex, R.lift_bad, R.lift_ite, R.bind_ok, R.bind_ex, R.bind_bad, R.bind_ite, F.fin_nx, F.fin_rt, F.fin_ex, F.fin_bad, F.fin_ite, dVar, dC, bin, un, dAnd, dOr, dNot, tB', tAnd', tOr', tNot', dIf, asB_bl, aNil, aCons, dTup, mkT, dLst, mkL, fIx, seqOf, lstOf, L2.atI, L2.ixN, fAdd, fPlus, dSl, oSome, oNone, asI, fSl, fInT, fStr, fIntT, fFmt, dFmt, dJs, fPart, fStarts, fFind, fIsdig, fIsasc, fMulS, fSub, fMul, fLt, fGt, fLe, fGe, fEq, fDiv, fMod, fNeg, fPow, arity, dCall, dCallY, dCallK, noEx, dCB, fGcd, fLen, fMax2, fMin2, fInt, sFor, iRng1, fRng1, iSeq, asSeq, iAny, asAny, dIsi, fIsi, isTy, refOk, dIsN, dNotN, dIsB, dNotB, isNon, isBl, sz_lt, sz_le, sRaise, sTry, collapse_const, endX, dXf, dXis, dBM, dBM0, fPop, fApp, fRevM, fIns, fPopAt, tTr, fTr, aStar, dSoSet, sRetN, fTuple, fAbs, tyD, *])
local macro_rules | `(tactic| walk_at "v") => `(tactic| simp [fnF_eq, sSeq, sSet, sRet, sIf, sDrop, sNil, sAsg, sPar, sPut, F.then_nx, F.then_rt, F.then_bk, F.then_ct, F.then_ex, F.then_bad, F.then_ite, R.lift_ok, R.lift_ex, R.lift_bad, R.lift_ite, R.bind_ok, R.bind_ex, R.bind_bad, R.bind_ite, F.fin_nx, F.fin_rt, F.fin_ex, F.fin_bad, F.fin_ite, dVar, dC, bin, un, dAnd, dOr, dNot, tB', tAnd', tOr', tNot', dIf, asB_bl, aNil, aCons, dTup, mkT, dLst, mkL, seqOf, lstOf, fAdd, fPlus, dSl, oSome, oNone, asI, fInT, fStr, fIntT, fFmt, dFmt, dJs, fPart, fStarts, fFind, fIsdig, fIsasc, fMulS, fSub, fLt, fGt, fLe, fGe, fEq, fMod, fNeg, fPow, arity, dCall, dCallY, dCallK, noEx, dCB, fGcd, fMax2, fMin2, fInt, gN, gT, gAll, dIsi, fIsi, isTy, refOk, dIsN, dNotN, dIsB, dNotB, isNon, isBl, sz_lt, sz_le, sRaise, sTry, collapse_const, endX, dXf, dXis, dBM, dBM0, tTr, fTr, aStar, sRetN, fAbs, *])
local macro_rules | `(tactic| walk_at "u") => `(tactic| simp [fnF_eq, sSeq, sSet, sRet, sIf, sDrop, sNil, sAsg, sPar, sPut, F.then_nx, F.then_rt, F.then_bk, F.then_ct, F.then_ex, F.then_bad, F.then_ite, R.lift_ok, R.lift_ex, R.lift_bad, R.lift_ite, R.bind_ok, R.bind_ex, R.bind_bad, R.bind_ite, F.fin_nx, F.fin_rt, F.fin_ex, F.fin_bad, F.fin_ite, dVar, dC, bin, un, dAnd, dOr, dNot, tB', tAnd', tOr', tNot', dIf, asB_bl, aNil, aCons, dTup, mkT, dLst, mkL, seqOf, lstOf, fAdd, fPlus, dSl, oSome, oNone, asI, fInT, fStr, fIntT, fFmt, dFmt, dJs, fPart, fStarts, fFind, fIsdig, fIsasc, fMulS, fSub, fLt, fGt, fLe, fGe, fEq, fMod, fNeg, fPow, arity, dCall, dCallY, dCallK, noEx, dCB, fGcd, fMax2, fMin2, fInt, dIsi, fIsi, isTy, refOk, dIsN, dNotN, dIsB, dNotB, isNon, isBl, sz_lt, sz_le, sRaise, sTry, collapse_const, endX, dXf, dXis, dBM, dBM0, tTr, fTr, aStar, sRetN, fAbs, sFor, iAny, iRng1, iEn, *])
local macro_rules | `(tactic| walk_at "t") => `(tactic| simp [fnF_eq, sSeq, sSet, sRet, sIf, sDrop, sNil, sAsg, sPar, sPut, F.then_nx, F.then_rt, F.then_bk, F.then_ct, F.then_ex, F.then_bad, F.then_ite, R.lift_ok, R.lift_ex, R.lift_bad, R.lift_ite, R.bind_ok, R.bind_ex, R.bind_bad, R.bind_ite, F.fin_nx, F.fin_rt, F.fin_ex, F.fin_bad, F.fin_ite, dVar, dC, bin, un, dAnd, dOr, dNot, tB', tAnd', tOr', tNot', dIf, asB_bl, aNil, aCons, dTup, mkT, dLst, mkL, seqOf, lstOf, fAdd, dSl, oSome, oNone, asI, fInT, fStr, fIntT, fFmt, dFmt, dJs, fPart, fStarts, fFind, fIsdig, fIsasc, fMulS, fSub, fLt, fGt, fLe, fGe, fEq, fMod, fNeg, fPow, arity, dCall, dCallY, dCallK, noEx, dCB, fGcd, fMax2, fMin2, fInt, dIsi, fIsi, isTy, refOk, dIsN, dNotN, dIsB, dNotB, isNon, isBl, sz_lt, sz_le, sRaise, sTry, collapse_const, endX, dXf, dXis, dBM, dBM0, tTr, fTr, aStar, sRetN, fAbs, sFor, iAny, iRng1, iEn, *])
namespace K21
theorem box_len {S rest : Sto} (h : IsBox S rest) : S.length = rest.length + 2 := by
  obtain ⟨gs, ps, t, rfl, _⟩ := h
  rfl
theorem box_app {S rest T : Sto} (h : IsBox S rest) : IsBox (S ++ T) (rest ++ T) := by
  obtain ⟨gs, ps, t, rfl, h⟩ := h
  exact ⟨gs, ps, t, rfl, h⟩
theorem box_set {S rest : Sto} {q : Nat} {c : Cell} (h : IsBox S rest) : IsBox (S.set (q + 2) c) (rest.set q c) := by
  obtain ⟨gs, ps, t, rfl, h⟩ := h
  exact ⟨gs, ps, t, rfl, h⟩
theorem set_last {rest : Sto} {c c' : Cell} : (rest ++ [c]).set rest.length c' = rest ++ [c'] := by
  rw [List.set_append_right _ _ (Nat.le_refl _)]; simp
theorem get_last {rest : Sto} {c : Cell} : (rest ++ [c])[rest.length]? = some c := by simp
noncomputable def hB : SDen := (sIf (tB' (bin (fEq false) (dCall (arity 2 F_law_draw) [] (aCons (dVar 0) (aCons (dC (.int 2)) (aNil)))) (dC (.int 0)))) (sDrop (dBM .list fIns (dVar 2) (aCons (dCall (arity 2 F_law_draw) [] (aCons (dVar 0) (aCons (bin fPlus (dCB fLen (aCons (dVar 2) (aNil))) (dC (.int 1))) (aNil)))) (aCons (bin fPlus (dVar 3) (dC (.int 1))) (aNil))))) (sNil))
theorem chosen_def : F_law_chosen = fnF 4 (sSeq (sSet 2 (dLst true (aNil))) (sSeq (sFor (iRng1 (aCons (dVar 1) (aNil))) (gN 3) hB) (sRet (dCB fTuple (aCons (dVar 2) (aNil)))))) := rfl
theorem hB_go {N : D} {rest : Sto} : ∀ (m i : Nat) (S : Sto) (ch : List Int) (y : Option D), i + m ≤ 100 → IsBox S (rest ++ [.lst (dI ch)]) → (∀ k ∈ ch, 1 ≤ k ∧ k ≤ (i : Int)) → ch.length ≤ i →
    ∃ y' S' ch', forGo (fun _ => True) (gN 3) hB (idx i m) [some (.ref 1), some N, some (.ref (rest.length + 2)), y] S = .nx [some (.ref 1), some N, some (.ref (rest.length + 2)), y'] S' ∧ IsBox S' (rest ++ [.lst (dI ch')]) ∧ (∀ k ∈ ch', 1 ≤ k ∧ k ≤ ((i + m : Nat) : Int)) ∧ ch'.length ≤ i + m
  | 0, i, S, ch, y, _, hS, hk, hl => ⟨y, S, ch, forGo_nil trivial, hS, hk, hl⟩
  | m + 1, i, S, ch, y, hm, hS, hk, hl => by
    have eg : ∀ u a b c d, (gN 3).run u [a, b, c, d] = some [a, b, c, some u] := fun _ _ _ _ _ => rfl
    obtain ⟨d, S1, e1, b1, d0, d1⟩ := draw_eq (n := 2) hS (by decide) (by decide)
    have hk' : ∀ k ∈ ch, 1 ≤ k ∧ k ≤ ((i + 1 : Nat) : Int) := fun k h => by have := hk k h; omega
    by_cases hd : d = 0
    · have g1 : S1[rest.length + 2]? = some (.lst (dI ch)) := by rw [box_get b1]; exact get_last
      obtain ⟨p, S2, e2, b2, p0, p1⟩ := draw_eq (n := (ch.length : Int) + 1) b1 (by omega) (by omega)
      obtain ⟨p, rfl⟩ := Int.eq_ofNat_of_zero_le p0
      have g2 : S2[rest.length + 2]? = some (.lst (dI ch)) := by rw [box_get b2]; exact get_last
      have ty := tyl g1
      have ln := fLen_ref g1
      rw [List.length_map] at ln
      have fi := fIns_eq (A := p) (y := .int ((i : Int) + 1)) g2 (by rw [List.length_map]; omega) (by omega)
      have ex : (dI ch).take p ++ D.int ((i : Int) + 1) :: (dI ch).drop p = dI (ch.take p ++ ((i : Int) + 1) :: ch.drop p) := by simp
      rw [ex] at fi
      have b3 := box_set (q := rest.length) (c := .lst (dI (ch.take p ++ ((i : Int) + 1) :: ch.drop p))) b2
      rw [set_last] at b3
      have eb : hB [some (.ref 1), some N, some (.ref (rest.length + 2)), some (.int (i : Int))] S = .nx [some (.ref 1), some N, some (.ref (rest.length + 2)), some (.int (i : Int))] (S2.set (rest.length + 2) (.lst (dI (ch.take p ++ ((i : Int) + 1) :: ch.drop p)))) := by
        clear hS b1 b2 b3 hk hk' hl hm d0 d1 p0 p1 g1 g2 ex
        generalize S2.set (rest.length + 2) (.lst (dI (ch.take p ++ ((i : Int) + 1) :: ch.drop p))) = S3 at *
        unfold hB
        walk_at "v"
      have mem : ∀ k ∈ ch.take p ++ ((i : Int) + 1) :: ch.drop p, 1 ≤ k ∧ k ≤ ((i + 1 : Nat) : Int) := fun k h => by
        rcases List.mem_append.mp h with h | h
        · exact hk' k (List.mem_of_mem_take h)
        · rcases List.mem_cons.mp h with rfl | h
          · omega
          · exact hk' k (List.mem_of_mem_drop h)
      obtain ⟨y', S4, ch', ih, j1, j2, j3⟩ := hB_go (N := N) m (i + 1) _ _ (some (.int (i : Int))) (by omega) b3 mem (by simp only [List.length_append, List.length_cons, List.length_take, List.length_drop]; omega)
      refine ⟨y', S4, ch', ?_, j1, fun k h => by have := j2 k h; omega, by omega⟩
      rw [idx_succ, forGo, if_pos trivial, eg]
      simp only [eb]
      exact ih
    · have eb : hB [some (.ref 1), some N, some (.ref (rest.length + 2)), some (.int (i : Int))] S = .nx [some (.ref 1), some N, some (.ref (rest.length + 2)), some (.int (i : Int))] S1 := by
        clear hS b1 hk hk' hl hm d0 d1
        unfold hB
        walk_at "v"
      obtain ⟨y', S4, ch', ih, j1, j2, j3⟩ := hB_go (N := N) m (i + 1) _ _ (some (.int (i : Int))) (by omega) b1 hk' (by omega)
      refine ⟨y', S4, ch', ?_, j1, fun k h => by have := j2 k h; omega, by omega⟩
      rw [idx_succ, forGo, if_pos trivial, eg]
      simp only [eb]
      exact ih
theorem chosen_eq {n : Nat} {S rest : Sto} (hS : IsBox S rest) (hn : n ≤ 100) : ∃ cl c S', F_law_chosen [.ref 1, .int (n : Int)] S = .ok (tI cl) S' ∧ IsBox S' (rest ++ [c]) ∧ (∀ k ∈ cl, 1 ≤ k ∧ k ≤ (n : Int)) ∧ cl.length ≤ n := by
  have b0 := box_app (T := [.lst (dI [])]) hS
  obtain ⟨y', S1, ch, lp, b1, hk, hl⟩ := hB_go (N := .int (n : Int)) n 0 (S ++ [.lst (dI [])]) [] none (by omega) b0 (by simp) (by simp)
  have ft := fTup_ref (n := rest.length + 2) (S := S1) (xs := dI ch) (by rw [box_get b1]; exact get_last) (by rw [List.length_map]; omega)
  refine ⟨ch, _, S1, ?_, b1, fun k h => by have := hk k h; omega, by omega⟩
  have rg : ∀ S, fRng1 [.int (n : Int)] S = .ok (idx 0 n, fun _ => True) S := fun S => by
    rw [← rng_idx]
    exact fRng1_eq rfl (by omega)
  have bl := box_len hS
  have e0 : dI [] = [] := rfl
  rw [e0] at lp
  rw [chosen_def]
  clear b0 b1 hk hl hS hn e0
  walk_at "u"
noncomputable def L1 : Den := (dLc true (iRng1 (aCons (dVar 2) (aNil))) [4] (gN 4) (tYesD) (dCall (arity 2 F_law_draw) [] (aCons (dVar 0) (aCons (dC (.int 3)) (aNil)))))
theorem ceil_def : F_law_ceilings = fnF 5 (sSeq (sSet 2 (bin fPlus (dC (.int 1)) (dCall (arity 2 F_law_draw) [] (aCons (dVar 0) (aCons (dC (.int 6)) (aNil)))))) (sSeq (sSet 3 L1) (sSeq (sIf (tB' (bin (fEq false) (dCall (arity 2 F_law_draw) [] (aCons (dVar 0) (aCons (dC (.int 4)) (aNil)))) (dC (.int 0)))) (sPut (dVar 3) (dCall (arity 2 F_law_draw) [] (aCons (dVar 0) (aCons (dVar 2) (aNil)))) (dCall (arity 2 F_law_draw) [] (aCons (dVar 0) (aCons (bin fPlus (dVar 1) (dC (.int 1))) (aNil))))) (sNil)) (sRet (dCB fTuple (aCons (dVar 3) (aNil))))))) := rfl
theorem pairs_ints {P : Int → Prop} {xs ys : List D} (hl : ys.length = xs.length) (h : ∀ (i : Nat) (x y : D), xs[i]? = some x → ys[i]? = some y → ∃ k, y = .int k ∧ P k) : ∃ ks : List Int, ys = dI ks ∧ ∀ k ∈ ks, P k := by
  have all : ∀ y ∈ ys, ∃ k, y = .int k ∧ P k := fun y hy => by
    obtain ⟨i, hi, rfl⟩ := List.mem_iff_getElem.mp hy
    exact h i xs[i] ys[i] (List.getElem?_eq_getElem (by omega)) (List.getElem?_eq_getElem hi)
  clear h hl
  induction ys with
  | nil => exact ⟨[], rfl, by simp⟩
  | cons y ys ih =>
    obtain ⟨k, rfl, pk⟩ := all y (by simp)
    obtain ⟨ks, rfl, hk⟩ := ih fun z hz => all z (List.mem_cons_of_mem _ hz)
    refine ⟨k :: ks, rfl, fun j hj => ?_⟩
    rcases List.mem_cons.mp hj with rfl | hj
    · exact pk
    · exact hk j hj
theorem L1_eq {m : Nat} {S rest : Sto} {x1 : D} (hS : IsBox S rest) (hm : m ≤ 100) : ∃ ks S', L1 [some (.ref 1), some x1, some (.int (m : Int)), none, none] S = .ok (.ref (rest.length + 2)) S' ∧ IsBox S' (rest ++ [.lst (dI ks)]) ∧ ks.length = m ∧ ∀ k ∈ ks, 0 ≤ k ∧ k < 3 := by
  have rg : fRng1 [.int (m : Int)] S = .ok (idx 0 m, fun _ => True) S := by
    rw [← rng_idx]
    exact fRng1_eq rfl (by omega)
  have il : (idx 0 m).length = m := by unfold idx; rw [List.length_map, List.length_range']
  obtain ⟨ys, S1, e1, b1, yl, yp⟩ := lcGo_ex (t := gN 4) (elt := dCall (arity 2 F_law_draw) [] (aCons (dVar 0) (aCons (dC (.int 3)) (aNil)))) (env := wipeE [some (.ref 1), some x1, some (.int (m : Int)), none, none] [4]) (g := fun _ => True) (fun S => IsBox S rest) (fun _ y => ∃ k, y = .int k ∧ (0 ≤ k ∧ k < 3)) (fun _ _ => trivial) (idx 0 m) [] S hS (by rw [il]; simp; omega) fun x _ S hS => by
    obtain ⟨d, S1, e1, b1, d0, d1⟩ := draw_eq (n := 3) hS (by decide) (by decide)
    refine ⟨[some (.ref 1), some x1, some (.int (m : Int)), none, some x], .int d, S1, rfl, ?_, b1, d, rfl, d0, d1⟩
    simp [dCall, arity, aCons, aNil, dVar, dC, R.bind_ok, e1]
  obtain ⟨ks, rfl, hk⟩ := pairs_ints yl yp
  refine ⟨ks, S1 ++ [.lst (dI ks)], ?_, box_app b1, by rw [List.length_map] at yl; omega, hk⟩
  have src : iRng1 (aCons (dVar 2) (aNil)) [some (.ref 1), some x1, some (.int (m : Int)), none, none] S = .ok (idx 0 m, fun _ => True) S := by
    simp [iRng1, aCons, aNil, dVar, R.bind_ok, rg]
  unfold L1 dLc
  rw [src, R.bind_ok, e1, R.bind_ok, List.nil_append]
  show R.ok (D.ref S1.length) (S1 ++ [Cell.lst (dI ks)]) = _
  rw [box_len b1]
theorem ceil_eq {S rest : Sto} (hS : IsBox S rest) : ∃ cs c S', F_law_ceilings [.ref 1, .int 90] S = .ok (tI cs) S' ∧ IsBox S' (rest ++ [c]) ∧ 1 ≤ cs.length ∧ cs.length ≤ 6 ∧ ∀ k ∈ cs, 0 ≤ k ∧ k < 1000 := by
  obtain ⟨d, S1, e1, b1, d0, d1⟩ := draw_eq (n := 6) hS (by decide) (by decide)
  obtain ⟨m, hm⟩ := Int.eq_ofNat_of_zero_le (a := 1 + d) (by omega)
  obtain ⟨ks, S2, e2, b2, kl, hk⟩ := L1_eq (m := m) (x1 := .int 90) b1 (by omega)
  obtain ⟨f, S3, e3, b3, f0, f1⟩ := draw_eq (n := 4) b2 (by decide) (by decide)
  by_cases hf : f = 0
  · obtain ⟨v, S4, e4, b4, v0, v1⟩ := draw_eq (n := 91) b3 (by decide) (by decide)
    obtain ⟨p, S5, e5, b5, p0, p1⟩ := draw_eq (n := (m : Int)) b4 (by omega) (by omega)
    obtain ⟨p, rfl⟩ := Int.eq_ofNat_of_zero_le p0
    have g5 : S5[rest.length + 2]? = some (.lst (dI ks)) := by rw [box_get b5]; exact get_last
    have b6 := box_set (q := rest.length) (c := .lst (dI (ks.set p v))) b5
    rw [set_last] at b6
    have ft := fTup_ref (n := rest.length + 2) (S := S5.set (rest.length + 2) (.lst (dI (ks.set p v)))) (xs := dI (ks.set p v)) (by rw [box_get b6]; exact get_last) (by rw [List.length_map, List.length_set]; omega)
    refine ⟨ks.set p v, _, _, ?_, b6, by rw [List.length_set]; omega, by rw [List.length_set]; omega, fun k h => ?_⟩
    · have ix : L2.ixN ks.length (p : Int) = some p := by
        unfold L2.ixN
        rw [if_pos (by omega), if_pos (by omega)]
        simp
      have sx : dI (ks.set p v) = (dI ks).set p (D.int v) := by simp [List.map_set]
      show _ = R.ok (D.tup (dI (ks.set p v))) _
      rw [sx] at ft ⊢
      rw [ceil_def]
      rw [hm.symm] at e2 e5
      clear hS b1 b2 b3 b4 b5 b6 d0 d1 f0 f1 v0 v1 p0 p1 kl hk hm
      simp [fnF_eq, sSeq, sSet, sRet, sIf, sNil, sPut, F.then_nx, F.then_rt, R.lift_ok, R.bind_ok, F.fin_rt, dVar, dC, bin, fEq, fPlus, tB', asB_bl, dCB, aCons, aNil, dCall, arity, e1, e2, e3, hf, e4, e5, g5, ix, ft]
    · rcases List.mem_or_eq_of_mem_set h with h | rfl
      · have := hk k h; omega
      · omega
  · have ft := fTup_ref (n := rest.length + 2) (S := S3) (xs := dI ks) (by rw [box_get b3]; exact get_last) (by rw [List.length_map]; omega)
    refine ⟨ks, _, S3, ?_, b3, by omega, by omega, fun k h => by have := hk k h; omega⟩
    rw [ceil_def]
    rw [hm.symm] at e2
    clear hS b1 b2 b3 d0 d1 f0 f1 kl hk hm
    simp [fnF_eq, sSeq, sSet, sRet, sIf, sNil, sPut, F.then_nx, F.then_rt, R.lift_ok, R.bind_ok, F.fin_rt, dVar, dC, bin, fEq, fPlus, tB', asB_bl, dCB, aCons, aNil, dCall, arity, e1, e2, e3, hf, ft]
end K21
end

section
set_option Elab.async false
set_option linter.all false
set_option maxRecDepth 100000
set_option maxHeartbeats 1000000
open Z
local macro_rules | `(tactic| walk_at "z") => `(tactic| simp [fnF_eq, sSeq, sSet, sRet, sIf, sDrop, sNil, sAsg, sPar, sPut, F.then_nx, F.then_rt, F.then_bk, F.then_ct, F.then_ex, F.then_bad, F.then_ite, R.lift_ok, R.lift_ex, R.lift_bad, R.lift_ite, R.bind_ok, R.bind_ex, R.bind_bad, R.bind_ite, F.fin_nx, F.fin_rt, F.fin_ex, F.fin_bad, F.fin_ite, dVar, dC, bin, un, dAnd, dOr, dNot, tB', tAnd', tOr', tNot', dIf, asB_bl, aNil, aCons, dTup, mkT, dLst, mkL, fIx, seqOf, lstOf, L2.atI, L2.ixN, fAdd, fPlus, dSl, oSome, oNone, asI, fSl, fInT, fStr, fIntT, fFmt, dFmt, dJs, fPart, fStarts, fFind, fIsdig, fIsasc, fMulS, fSub, fMul, fLt, fGt, fLe, fGe, fEq, fDiv, fMod, fNeg, fPow, arity, dCall, dCallY, dCallK, noEx, dCB, fGcd, fLen, fMax2, fMin2, fInt, gN, gT, gAll, dIsi, fIsi, isTy, refOk, dIsN, dNotN, dIsB, dNotB, isNon, isBl, sz_lt, sz_le, sRaise, sTry, collapse_const, endX, dXf, dXis, dBM, dBM0, fPop, fApp, fRevM, fIns, fPopAt, tTr, fTr, aStar, dSoSet, sRetN, fTuple, fAbs, tyD, *])
local macro_rules | `(tactic| walk_at "y") => `(tactic| simp [fnF_eq, sSeq, sSet, sRet, sIf, sDrop, sNil, sAsg, sPar, sPut, F.then_nx, F.then_rt, F.then_bk, F.then_ct, F.then_ex, F.then_bad, F.then_ite, R.lift_ok, R.lift_ex, R.lift_bad, R.lift_ite, R.bind_ok, R.bind_ex, R.bind_bad, R.bind_ite, F.fin_nx, F.fin_rt, F.fin_ex, F.fin_bad, F.fin_ite, dVar, dC, bin, un, dAnd, dOr, dNot, tB', tAnd', tOr', tNot', dIf, asB_bl, aNil, aCons, dTup, mkT, dLst, mkL, fIx, seqOf, lstOf, L2.atI, L2.ixN, fAdd, fPlus, dSl, oSome, oNone, asI, fSl, fInT, fStr, fIntT, fFmt, dFmt, dJs, fPart, fStarts, fFind, fIsdig, fIsasc, fMulS, fSub, fMul, fLt, fGt, fLe, fGe, fEq, fDiv, fMod, fNeg, fPow, arity, dCall, dCallY, dCallK, noEx, dCB, fGcd, fLen, fMax2, fMin2, fInt, sFor, iRng1, fRng1, iSeq, asSeq, iAny, asAny, dIsi, fIsi, isTy, refOk, dIsN, dNotN, dIsB, dNotB, isNon, isBl, sz_lt, sz_le, sRaise, sTry, collapse_const, endX, dXf, dXis, dBM, dBM0, fPop, fApp, fRevM, fIns, fPopAt, tTr, fTr, aStar, dSoSet, sRetN, fTuple, fAbs, tyD, *])
local macro_rules | `(tactic| walk_at "v") => `(tactic| simp [fnF_eq, sSeq, sSet, sRet, sIf, sDrop, sNil, sAsg, sPar, sPut, F.then_nx, F.then_rt, F.then_bk, F.then_ct, F.then_ex, F.then_bad, F.then_ite, R.lift_ok, R.lift_ex, R.lift_bad, R.lift_ite, R.bind_ok, R.bind_ex, R.bind_bad, R.bind_ite, F.fin_nx, F.fin_rt, F.fin_ex, F.fin_bad, F.fin_ite, dVar, dC, bin, un, dAnd, dOr, dNot, tB', tAnd', tOr', tNot', dIf, asB_bl, aNil, aCons, dTup, mkT, dLst, mkL, seqOf, lstOf, fAdd, fPlus, dSl, oSome, oNone, asI, fInT, fStr, fIntT, fFmt, dFmt, dJs, fPart, fStarts, fFind, fIsdig, fIsasc, fMulS, fSub, fLt, fGt, fLe, fGe, fEq, fMod, fNeg, fPow, arity, dCall, dCallY, dCallK, noEx, dCB, fGcd, fMax2, fMin2, fInt, gN, gT, gAll, dIsi, fIsi, isTy, refOk, dIsN, dNotN, dIsB, dNotB, isNon, isBl, sz_lt, sz_le, sRaise, sTry, collapse_const, endX, dXf, dXis, dBM, dBM0, tTr, fTr, aStar, sRetN, fAbs, *])
local macro_rules | `(tactic| walk_at "u") => `(tactic| simp [fnF_eq, sSeq, sSet, sRet, sIf, sDrop, sNil, sAsg, sPar, sPut, F.then_nx, F.then_rt, F.then_bk, F.then_ct, F.then_ex, F.then_bad, F.then_ite, R.lift_ok, R.lift_ex, R.lift_bad, R.lift_ite, R.bind_ok, R.bind_ex, R.bind_bad, R.bind_ite, F.fin_nx, F.fin_rt, F.fin_ex, F.fin_bad, F.fin_ite, dVar, dC, bin, un, dAnd, dOr, dNot, tB', tAnd', tOr', tNot', dIf, asB_bl, aNil, aCons, dTup, mkT, dLst, mkL, seqOf, lstOf, fAdd, fPlus, dSl, oSome, oNone, asI, fInT, fStr, fIntT, fFmt, dFmt, dJs, fPart, fStarts, fFind, fIsdig, fIsasc, fMulS, fSub, fLt, fGt, fLe, fGe, fEq, fMod, fNeg, fPow, arity, dCall, dCallY, dCallK, noEx, dCB, fGcd, fMax2, fMin2, fInt, dIsi, fIsi, isTy, refOk, dIsN, dNotN, dIsB, dNotB, isNon, isBl, sz_lt, sz_le, sRaise, sTry, collapse_const, endX, dXf, dXis, dBM, dBM0, tTr, fTr, aStar, sRetN, fAbs, sFor, iAny, iRng1, iEn, *])
local macro_rules | `(tactic| walk_at "t") => `(tactic| simp [fnF_eq, sSeq, sSet, sRet, sIf, sDrop, sNil, sAsg, sPar, sPut, F.then_nx, F.then_rt, F.then_bk, F.then_ct, F.then_ex, F.then_bad, F.then_ite, R.lift_ok, R.lift_ex, R.lift_bad, R.lift_ite, R.bind_ok, R.bind_ex, R.bind_bad, R.bind_ite, F.fin_nx, F.fin_rt, F.fin_ex, F.fin_bad, F.fin_ite, dVar, dC, bin, un, dAnd, dOr, dNot, tB', tAnd', tOr', tNot', dIf, asB_bl, aNil, aCons, dTup, mkT, dLst, mkL, seqOf, lstOf, fAdd, dSl, oSome, oNone, asI, fInT, fStr, fIntT, fFmt, dFmt, dJs, fPart, fStarts, fFind, fIsdig, fIsasc, fMulS, fSub, fLt, fGt, fLe, fGe, fEq, fMod, fNeg, fPow, arity, dCall, dCallY, dCallK, noEx, dCB, fGcd, fMax2, fMin2, fInt, dIsi, fIsi, isTy, refOk, dIsN, dNotN, dIsB, dNotB, isNon, isBl, sz_lt, sz_le, sRaise, sTry, collapse_const, endX, dXf, dXis, dBM, dBM0, tTr, fTr, aStar, sRetN, fAbs, sFor, iAny, iRng1, iEn, *])
namespace K21
noncomputable def X1 : Den := (dLc false (iAny (dSl false (dVar 0) (oNone) (oSome (dC (.int 63))))) [2] (gN 2) (tYesD) (dCB fAbs (aCons (dVar 2) (aNil))))
noncomputable def X2 : Den := (dLc true (iAny (dVar 1)) [2] (gN 2) (tB' (bin fGe (dVar 2) (bin fPow (dC (.int 10)) (dC (.int 18))))) (dVar 2))
noncomputable def X3 : Den := (dLc false (iAny (dVar 1)) [2] (gN 2) (tB' (bin fLt (dVar 2) (bin fPow (dC (.int 10)) (dC (.int 18))))) (dVar 2))
noncomputable def X4 : Den := (dLc false (iAny (dVar 3)) [2] (gN 2) (tYesD) (bin fMod (dCB fIntT (aCons (dVar 2) (aNil))) (dC (.int 1000003))))
theorem box_def : F_law_box = fnF 5 (sSeq (sSet 1 X1) (sSeq (sSet 3 X2) (sSeq (sSet 4 X3) (sSeq (sIf (tNot' (tTr (dVar 4))) (sSet 4 (bin fPlus X4 (dLst false (aCons (dC (.int 7)) (aNil))))) (sNil)) (sRet (dLst true (aCons (dVar 3) (aCons (dVar 4) (aCons (dC (.int 0)) (aNil)))))))))) := rfl
theorem cutD_map {α β : Type} (f : α → β) (xs : List α) (l h : Option Int) : cutD (xs.map f) l h = (cutD xs l h).map f := by
  unfold cutD
  rw [List.length_map, List.map_take, List.map_drop]
theorem c18 : L2.CPow 10 18 := by unfold L2.CPow; decide
theorem pw : ∃ M : Int, ∀ S, fPow (.int 10) (.int 18) S = .ok (.int M) S := ⟨_, fun S => if_pos c18⟩
def onI (f : Int → Int) (x : D) : D := match x with
  | .int k => .int (f k)
  | _ => .non
def onP (p : Int → Bool) (x : D) : Bool := match x with
  | .int k => p k
  | _ => false
theorem onP_filter (p : Int → Bool) (l : List Int) : (dI l).filter (onP p) = dI (l.filter p) := by rw [List.filter_map]; rfl
section
variable {S : Sto} {l : List Int} {a0 a2 a3 a4 : Option D}
theorem X1_eq {ns : List Int} (hl : ns.length ≤ 63) {a1 : Option D} : X1 [some (.frz (dI ns)), a1, a2, a3, a4] S = .ok (.lst (dI ((cutD ns none (some 63)).map fun i => if i < 0 then -i else i))) S := by
  have hc := cutD_len ns none (some 63)
  have f : Fit (cutD ns none (some 63)).length := of_eq_true (sz_le (by omega))
  have src : iAny (dSl false (dVar 0) (oNone) (oSome (dC (.int 63)))) [some (.frz (dI ns)), a1, a2, a3, a4] S = .ok (dI (cutD ns none (some 63)), fun _ => True) S := by
    have e : fSl false (.frz (dI ns)) none (some 63) S = .ok (.lst (dI (cutD ns none (some 63)))) S := by
      simp [fSl, lstOf, mkL, cutD_map, f]
    have a : dSl false (dVar 0) (oNone) (oSome (dC (.int 63))) [some (.frz (dI ns)), a1, a2, a3, a4] S = .ok (.lst (dI (cutD ns none (some 63)))) S := e
    unfold iAny
    rw [a]; rfl
  unfold X1
  rw [dLc_map (onI fun i => if i < 0 then -i else i) src trivial (by rw [List.length_map]; omega) fun x hx => ?_, List.map_map]
  · show lcEnd false _ S = R.ok (D.lst (List.map D.int (List.map _ _))) S
    rw [List.map_map]; rfl
  · obtain ⟨k, hk, rfl⟩ := List.mem_map.mp hx
    exact ⟨[some (.frz (dI ns)), a1, some (.int k), a3, a4], rfl, rfl⟩
theorem XF {cell : Bool} {c : DenT} {p : Int → Bool} (hl : l.length ≤ 100) (hc : ∀ k : Int, c [a0, some (.lst (dI l)), some (.int k), a3, a4] S = .ok (p k) S) : dLc cell (iAny (dVar 1)) [2] (gN 2) c (dVar 2) [a0, some (.lst (dI l)), a2, a3, a4] S = lcEnd cell (dI (l.filter p)) S := by
  have src : iAny (dVar 1) [a0, some (.lst (dI l)), a2, a3, a4] S = .ok (dI l, fun _ => True) S := rfl
  rw [dLc_fm (onP p) id src trivial (by rw [List.length_map]; omega) fun x hx => ?_, List.map_id, onP_filter]
  obtain ⟨k, hk, rfl⟩ := List.mem_map.mp hx
  exact ⟨[a0, some (.lst (dI l)), some (.int k), a3, a4], rfl, hc k, fun _ => rfl⟩
theorem X2_eq {M : Int} (hM : ∀ S, fPow (.int 10) (.int 18) S = .ok (.int M) S) (hl : l.length ≤ 100) : X2 [a0, some (.lst (dI l)), a2, a3, a4] S = .ok (.ref S.length) (S ++ [.lst (dI (l.filter fun k => decide (M ≤ k)))]) := by
  unfold X2
  rw [XF (p := fun k => decide (M ≤ k)) hl fun k => by simp [tB', bin, dVar, dC, R.bind_ok, hM, fGe, asB_bl]]
  rfl
theorem X3_eq {M : Int} (hM : ∀ S, fPow (.int 10) (.int 18) S = .ok (.int M) S) (hl : l.length ≤ 100) : X3 [a0, some (.lst (dI l)), a2, a3, a4] S = .ok (.lst (dI (l.filter fun k => decide (k < M)))) S := by
  unfold X3
  rw [XF (p := fun k => decide (k < M)) hl fun k => by simp [tB', bin, dVar, dC, R.bind_ok, hM, fLt, asB_bl]]
  rfl
theorem X4_eq {n : Nat} {a1 : Option D} (hl : l.length ≤ 100) (h : S[n]? = some (.lst (dI l))) : X4 [a0, a1, a2, some (.ref n), a4] S = .ok (.lst (dI (l.map fun k => k % 1000003))) S := by
  have src : iAny (dVar 3) [a0, a1, a2, some (.ref n), a4] S = .ok (dI l, fun S => S[n]? = some (.lst (dI l))) S := asAny_ref h
  have dm : DivOk 1000003 := sm.div (a := 60) (by unfold sm; decide) (by decide) (by decide)
  unfold X4
  rw [dLc_map (onI fun k => k % 1000003) src h (by rw [List.length_map]; omega) fun x hx => ?_, List.map_map]
  · show lcEnd false _ S = R.ok (D.lst (List.map D.int (List.map _ _))) S
    rw [List.map_map]; rfl
  · obtain ⟨k, hk, rfl⟩ := List.mem_map.mp hx
    refine ⟨[a0, a1, some (.int k), some (.ref n), a4], rfl, ?_⟩
    simp [bin, dCB, aCons, aNil, dVar, dC, R.bind_ok, fIntT, fMod, dm, onI]
end
theorem box_eq (ns : List Int) (hl : ns.length ≤ 63) : ∃ S', F_law_box [.frz (dI ns)] [] = .ok (.ref 1) S' ∧ IsBox S' [] := by
  obtain ⟨M, hM⟩ := pw
  have hc := cutD_len ns none (some 63)
  have x1 := X1_eq (S := []) (ns := ns) (a1 := none) (a2 := none) (a3 := none) (a4 := none) hl
  generalize hL : (cutD ns none (some 63)).map (fun i => if i < 0 then -i else i) = l at *
  have ll : l.length ≤ 63 := by rw [← hL, List.length_map]; omega
  have x2 := X2_eq (S := []) (a0 := some (.frz (dI ns))) (a2 := none) (a3 := none) (a4 := none) hM (l := l) (by omega)
  have x3 := X3_eq (S := [.lst (dI (l.filter fun k => decide (M ≤ k)))]) (a0 := some (.frz (dI ns))) (a2 := none) (a3 := some (.ref 0)) (a4 := none) hM (l := l) (by omega)
  have gl := List.length_filter_le (fun k => decide (M ≤ k)) l
  have pl := List.length_filter_le (fun k => decide (k < M)) l
  generalize l.filter (fun k => decide (M ≤ k)) = g at *
  have x4 := X4_eq (S := [.lst (dI g)]) (n := 0) (l := g) (a0 := some (.frz (dI ns))) (a1 := some (.lst (dI l))) (a2 := none) (a4 := some (.lst (dI (l.filter fun k => decide (k < M))))) (by omega) rfl
  generalize l.filter (fun k => decide (k < M)) = p at *
  rw [box_def]
  simp only [List.nil_append, List.length_nil] at x2
  by_cases hp : p = []
  · subst hp
    have f : Fit (g.length + 1) := of_eq_true (sz_le (by omega))
    have sq : fPlus (.lst (dI (g.map fun k => k % 1000003))) (.lst [.int 7]) [.lst (dI g)] = .ok (.lst (dI ((g.map fun k => k % 1000003) ++ [7]))) [.lst (dI g)] := by
      simp [fPlus, mkL, ownOf, f]
    refine ⟨Bx g ((g.map fun k => k % 1000003) ++ [7]) 0 [], ?_, _, _, _, rfl, by simp, by rw [List.length_append, List.length_map]; simp; omega⟩
    have e0 : dI [] = [] := rfl
    rw [e0] at x3 x4
    generalize dI (g.map fun k => k % 1000003) = qq at *
    unfold Bx
    generalize hpp : dI ((g.map fun k => k % 1000003) ++ [7]) = pp at *
    simp [fnF_eq, sSeq, sSet, sRet, sIf, sNil, F.then_nx, F.then_rt, R.lift_ok, R.bind_ok, F.fin_rt, dVar, dC, bin, tNot', tTr, fTr, seqOf, aCons, aNil, dLst, mkL, sz_le, Bx, x1, x2, x3, x4, sq]
    rw [← hpp]
    simp
  · obtain ⟨x, p, rfl⟩ := List.exists_cons_of_ne_nil hp
    refine ⟨Bx g (x :: p) 0 [], ?_, _, _, _, rfl, by simp, by omega⟩
    clear x4 hL hM hc
    simp [fnF_eq, sSeq, sSet, sRet, sIf, sNil, F.then_nx, F.then_rt, R.lift_ok, R.bind_ok, F.fin_rt, dVar, dC, bin, tNot', tTr, fTr, seqOf, aCons, aNil, dLst, mkL, sz_le, Bx, x1, x2, x3]
end K21
end

section
set_option Elab.async false
set_option linter.all false
set_option maxRecDepth 100000
set_option maxHeartbeats 1000000
open Z
local macro_rules | `(tactic| walk_at "z") => `(tactic| simp [fnF_eq, sSeq, sSet, sRet, sIf, sDrop, sNil, sAsg, sPar, sPut, F.then_nx, F.then_rt, F.then_bk, F.then_ct, F.then_ex, F.then_bad, F.then_ite, R.lift_ok, R.lift_ex, R.lift_bad, R.lift_ite, R.bind_ok, R.bind_ex, R.bind_bad, R.bind_ite, F.fin_nx, F.fin_rt, F.fin_ex, F.fin_bad, F.fin_ite, dVar, dC, bin, un, dAnd, dOr, dNot, tB', tAnd', tOr', tNot', dIf, asB_bl, aNil, aCons, dTup, mkT, dLst, mkL, fIx, seqOf, lstOf, L2.atI, L2.ixN, fAdd, fPlus, dSl, oSome, oNone, asI, fSl, fInT, fStr, fIntT, fFmt, dFmt, dJs, fPart, fStarts, fFind, fIsdig, fIsasc, fMulS, fSub, fMul, fLt, fGt, fLe, fGe, fEq, fDiv, fMod, fNeg, fPow, arity, dCall, dCallY, dCallK, noEx, dCB, fGcd, fLen, fMax2, fMin2, fInt, gN, gT, gAll, dIsi, fIsi, isTy, refOk, dIsN, dNotN, dIsB, dNotB, isNon, isBl, sz_lt, sz_le, sRaise, sTry, collapse_const, endX, dXf, dXis, dBM, dBM0, fPop, fApp, fRevM, fIns, fPopAt, tTr, fTr, aStar, dSoSet, sRetN, fTuple, fAbs, tyD, *])
local macro_rules | `(tactic| walk_at "y") => `(tactic| simp [fnF_eq, sSeq, sSet, sRet, sIf, sDrop, sNil, sAsg, sPar, sPut, F.then_nx, F.then_rt, F.then_bk, F.then_ct, F.then_ex, F.then_bad, F.then_ite, R.lift_ok, R.lift_ex, R.lift_bad, R.lift_ite, R.bind_ok, R.bind_ex, R.bind_bad, R.bind_ite, F.fin_nx, F.fin_rt, F.fin_ex, F.fin_bad, F.fin_ite, dVar, dC, bin, un, dAnd, dOr, dNot, tB', tAnd', tOr', tNot', dIf, asB_bl, aNil, aCons, dTup, mkT, dLst, mkL, fIx, seqOf, lstOf, L2.atI, L2.ixN, fAdd, fPlus, dSl, oSome, oNone, asI, fSl, fInT, fStr, fIntT, fFmt, dFmt, dJs, fPart, fStarts, fFind, fIsdig, fIsasc, fMulS, fSub, fMul, fLt, fGt, fLe, fGe, fEq, fDiv, fMod, fNeg, fPow, arity, dCall, dCallY, dCallK, noEx, dCB, fGcd, fLen, fMax2, fMin2, fInt, sFor, iRng1, fRng1, iSeq, asSeq, iAny, asAny, dIsi, fIsi, isTy, refOk, dIsN, dNotN, dIsB, dNotB, isNon, isBl, sz_lt, sz_le, sRaise, sTry, collapse_const, endX, dXf, dXis, dBM, dBM0, fPop, fApp, fRevM, fIns, fPopAt, tTr, fTr, aStar, dSoSet, sRetN, fTuple, fAbs, tyD, *])
local macro_rules | `(tactic| walk_at "v") => `(tactic| simp [fnF_eq, sSeq, sSet, sRet, sIf, sDrop, sNil, sAsg, sPar, sPut, F.then_nx, F.then_rt, F.then_bk, F.then_ct, F.then_ex, F.then_bad, F.then_ite, R.lift_ok, R.lift_ex, R.lift_bad, R.lift_ite, R.bind_ok, R.bind_ex, R.bind_bad, R.bind_ite, F.fin_nx, F.fin_rt, F.fin_ex, F.fin_bad, F.fin_ite, dVar, dC, bin, un, dAnd, dOr, dNot, tB', tAnd', tOr', tNot', dIf, asB_bl, aNil, aCons, dTup, mkT, dLst, mkL, seqOf, lstOf, fAdd, fPlus, dSl, oSome, oNone, asI, fInT, fStr, fIntT, fFmt, dFmt, dJs, fPart, fStarts, fFind, fIsdig, fIsasc, fMulS, fSub, fLt, fGt, fLe, fGe, fEq, fMod, fNeg, fPow, arity, dCall, dCallY, dCallK, noEx, dCB, fGcd, fMax2, fMin2, fInt, gN, gT, gAll, dIsi, fIsi, isTy, refOk, dIsN, dNotN, dIsB, dNotB, isNon, isBl, sz_lt, sz_le, sRaise, sTry, collapse_const, endX, dXf, dXis, dBM, dBM0, tTr, fTr, aStar, sRetN, fAbs, *])
local macro_rules | `(tactic| walk_at "u") => `(tactic| simp [fnF_eq, sSeq, sSet, sRet, sIf, sDrop, sNil, sAsg, sPar, sPut, F.then_nx, F.then_rt, F.then_bk, F.then_ct, F.then_ex, F.then_bad, F.then_ite, R.lift_ok, R.lift_ex, R.lift_bad, R.lift_ite, R.bind_ok, R.bind_ex, R.bind_bad, R.bind_ite, F.fin_nx, F.fin_rt, F.fin_ex, F.fin_bad, F.fin_ite, dVar, dC, bin, un, dAnd, dOr, dNot, tB', tAnd', tOr', tNot', dIf, asB_bl, aNil, aCons, dTup, mkT, dLst, mkL, seqOf, lstOf, fAdd, fPlus, dSl, oSome, oNone, asI, fInT, fStr, fIntT, fFmt, dFmt, dJs, fPart, fStarts, fFind, fIsdig, fIsasc, fMulS, fSub, fLt, fGt, fLe, fGe, fEq, fMod, fNeg, fPow, arity, dCall, dCallY, dCallK, noEx, dCB, fGcd, fMax2, fMin2, fInt, dIsi, fIsi, isTy, refOk, dIsN, dNotN, dIsB, dNotB, isNon, isBl, sz_lt, sz_le, sRaise, sTry, collapse_const, endX, dXf, dXis, dBM, dBM0, tTr, fTr, aStar, sRetN, fAbs, sFor, iAny, iRng1, iEn, *])
local macro_rules | `(tactic| walk_at "t") => `(tactic| simp [fnF_eq, sSeq, sSet, sRet, sIf, sDrop, sNil, sAsg, sPar, sPut, F.then_nx, F.then_rt, F.then_bk, F.then_ct, F.then_ex, F.then_bad, F.then_ite, R.lift_ok, R.lift_ex, R.lift_bad, R.lift_ite, R.bind_ok, R.bind_ex, R.bind_bad, R.bind_ite, F.fin_nx, F.fin_rt, F.fin_ex, F.fin_bad, F.fin_ite, dVar, dC, bin, un, dAnd, dOr, dNot, tB', tAnd', tOr', tNot', dIf, asB_bl, aNil, aCons, dTup, mkT, dLst, mkL, seqOf, lstOf, fAdd, dSl, oSome, oNone, asI, fInT, fStr, fIntT, fFmt, dFmt, dJs, fPart, fStarts, fFind, fIsdig, fIsasc, fMulS, fSub, fLt, fGt, fLe, fGe, fEq, fMod, fNeg, fPow, arity, dCall, dCallY, dCallK, noEx, dCB, fGcd, fMax2, fMin2, fInt, dIsi, fIsi, isTy, refOk, dIsN, dNotN, dIsB, dNotB, isNon, isBl, sz_lt, sz_le, sRaise, sTry, collapse_const, endX, dXf, dXis, dBM, dBM0, tTr, fTr, aStar, sRetN, fAbs, sFor, iAny, iRng1, iEn, *])
namespace K21
noncomputable def A1 : Den := (dLc true (iAny (dVar 2)) [5] (gN 5) (tYesD) (dCall (arity 2 F_law_draw) [] (aCons (dVar 1) (aCons (bin fMul (bin fPlus (dVar 5) (dC (.int 2))) (dVar 3)) (aNil)))))
noncomputable def RD : Den := (dLc false (iAny (dVar 4)) [8] (gN 8) (tYesD) (dTup (aCons (dVar 8) (aCons (dVar 3) (aNil)))))
noncomputable def A2 : Den := (dLc true (iAny (dVar 4)) [8] (gN 8) (tYesD) (bin fPlus (dVar 8) (dVar 12)))
noncomputable def zB : SDen := (sPut (dVar 4) (bin fSub (dVar 10) (dC (.int 1))) (dC (.int 0)))
noncomputable def TB : SDen := (sSeq (sSet 7 (dCall (arity 2 F_law_kind) [] (aCons RD (aCons (dVar 2) (aNil))))) (sSeq (sIf (tNot' (tB' (dCall (arity 5 F_law_tested) [] (aCons (dVar 1) (aCons (dVar 7) (aCons (dVar 4) (aCons (dVar 3) (aCons (dVar 2) (aNil))))))))) (sRet (dC (.bl false))) (sNil)) (sSeq (sSet 9 (dCall (arity 2 F_law_chosen) [] (aCons (dVar 1) (aCons (dCB fLen (aCons (dVar 2) (aNil))) (aNil))))) (sSeq (sFor (iAny (dVar 9)) (gN 10) zB) (sSeq (sSet 11 (dCall (arity 2 F_law_kind) [] (aCons RD (aCons (dVar 2) (aNil))))) (sSeq (sIf (tNot' (tB' (dCall (arity 2 (F_law_same 6)) [] (aCons (dCall (arity 2 Frestart_kind) [] (aCons (dVar 7) (aCons (dVar 9) (aNil)))) (aCons (dVar 11) (aNil)))))) (sRet (dC (.bl false))) (sNil)) (sSeq (sIf (tNot' (tB' (dCall (arity 2 (F_law_same 6)) [] (aCons (dCall (arity 2 Frestart_kind) [] (aCons (dVar 7) (aCons (bin fPlus (dVar 9) (dSl false (dVar 9) (oNone) (oSome (dC (.int 1))))) (aNil)))) (aCons (dVar 11) (aNil)))))) (sRet (dC (.bl false))) (sNil)) (sSeq (sIf (tNot' (tB' (dCall (arity 5 F_law_tested) [] (aCons (dVar 1) (aCons (dVar 11) (aCons (dVar 4) (aCons (dVar 3) (aCons (dVar 2) (aNil))))))))) (sRet (dC (.bl false))) (sNil)) (sSeq (sSet 12 (dCall (arity 2 F_law_draw) [] (aCons (dVar 1) (aCons (bin fPlus (bin fMul (dC (.int 3)) (dVar 3)) (dC (.int 1))) (aNil))))) (sSet 4 A2))))))))))
theorem law_def : Flaw = fnF 13 (sSeq (sSet 1 (dCall (arity 1 F_law_box) [] (aCons (dVar 0) (aNil)))) (sSeq (sSet 2 (dCall (arity 2 F_law_ceilings) [] (aCons (dVar 1) (aCons (dC (.int 90)) (aNil))))) (sSeq (sSet 3 (bin fPlus (dC (.int 1)) (dCall (arity 2 F_law_draw) [] (aCons (dVar 1) (aCons (dC (.int 12)) (aNil)))))) (sSeq (sSet 4 A1) (sSeq (sFor (iRng1 (aCons (bin fPlus (dC (.int 1)) (dCall (arity 2 F_law_draw) [] (aCons (dVar 1) (aCons (dC (.int 4)) (aNil))))) (aNil))) (gN 6) TB) (sRet (dC (.bl true)))))))) := rfl
section
variable {as : List Int} {b s : Int} {n : Nat} {S : Sto} {a0 a1 a2 a3 a5 a6 a7 a8 a9 a10 a11 a12 : Option D}
def rdF (b : Int) (x : D) : D := .tup [x, .int b]
theorem RD_eq (hl : as.length ≤ 100) (h : S[n]? = some (.lst (dI as))) : RD [a0, a1, a2, some (.int b), some (.ref n), a5, a6, a7, a8, a9, a10, a11, a12] S = .ok (rdD as b) S := by
  have src : iAny (dVar 4) [a0, a1, a2, some (.int b), some (.ref n), a5, a6, a7, a8, a9, a10, a11, a12] S = .ok (dI as, fun S => S[n]? = some (.lst (dI as))) S := asAny_ref h
  unfold RD
  rw [dLc_map (rdF b) src h (by rw [List.length_map]; omega) fun x hx => ?_, List.map_map]
  · rfl
  · refine ⟨[a0, a1, a2, some (.int b), some (.ref n), a5, a6, a7, some x, a9, a10, a11, a12], rfl, ?_⟩
    simp [dTup, mkT, aCons, aNil, dVar, R.bind_ok, sz_le, rdF]
theorem A2_eq (hl : as.length ≤ 100) (h : S[n]? = some (.lst (dI as))) : A2 [a0, a1, a2, a3, some (.ref n), a5, a6, a7, a8, a9, a10, a11, some (.int s)] S = .ok (.ref S.length) (S ++ [.lst (dI (as.map fun a => a + s))]) := by
  have src : iAny (dVar 4) [a0, a1, a2, a3, some (.ref n), a5, a6, a7, a8, a9, a10, a11, some (.int s)] S = .ok (dI as, fun S => S[n]? = some (.lst (dI as))) S := asAny_ref h
  unfold A2
  rw [dLc_map (onI fun a => a + s) src h (by rw [List.length_map]; omega) fun x hx => ?_, List.map_map]
  · show lcEnd true _ S = R.ok _ (S ++ [Cell.lst (List.map D.int (List.map _ _))])
    rw [List.map_map]; rfl
  · obtain ⟨k, hk, rfl⟩ := List.mem_map.mp hx
    exact ⟨[a0, a1, a2, a3, some (.ref n), a5, a6, a7, some (.int k), a9, a10, a11, some (.int s)], rfl, rfl⟩
end
theorem A1_eq {cs : List Int} {b : Int} {S rest : Sto} {a0 a4 a5 a6 a7 a8 a9 a10 a11 a12 : Option D} (hS : IsBox S rest) (hl : cs.length ≤ 100) (hcs : ∀ c ∈ cs, 0 ≤ c ∧ c < 1000) (hb : 0 < b ∧ b < 1000) :
    ∃ ks S', A1 [a0, some (.ref 1), some (tI cs), some (.int b), a4, a5, a6, a7, a8, a9, a10, a11, a12] S = .ok (.ref (rest.length + 2)) S' ∧ IsBox S' (rest ++ [.lst (dI ks)]) ∧ ks.length = cs.length ∧ ∀ k ∈ ks, 0 ≤ k := by
  obtain ⟨ys, S1, e1, b1, yl, yp⟩ := lcGo_ex (t := gN 5) (elt := dCall (arity 2 F_law_draw) [] (aCons (dVar 1) (aCons (bin fMul (bin fPlus (dVar 5) (dC (.int 2))) (dVar 3)) (aNil)))) (env := wipeE [a0, some (.ref 1), some (tI cs), some (.int b), a4, a5, a6, a7, a8, a9, a10, a11, a12] [5]) (g := fun _ => True) (fun S => IsBox S rest) (fun _ y => ∃ k, y = .int k ∧ 0 ≤ k) (fun _ _ => trivial) (dI cs) [] S hS (by rw [List.length_map]; simp; omega) fun x hx S hS => by
    obtain ⟨c, hc, rfl⟩ := List.mem_map.mp hx
    have hc1 := hcs c hc
    have p1 : 0 < (c + 2) * b := Int.mul_pos (by omega) hb.1
    have p2 : (c + 2) * b ≤ 1002 * 1000 := by
      have h1 : (c + 2) * b ≤ 1002 * b := Int.mul_le_mul_of_nonneg_right (by omega) (by omega)
      have h2 : 1002 * b ≤ 1002 * 1000 := Int.mul_le_mul_of_nonneg_left (by omega) (by decide)
      omega
    obtain ⟨d, S1, e1, b1, d0, d1⟩ := draw_eq (n := (c + 2) * b) hS p1 (by omega)
    refine ⟨[a0, some (.ref 1), some (tI cs), some (.int b), a4, some (.int c), a6, a7, a8, a9, a10, a11, a12], .int d, S1, rfl, ?_, b1, d, rfl, d0⟩
    have m := fMulb (x := c + 2) (t := 0) hb S
    simp [dCall, arity, aCons, aNil, bin, fPlus, dVar, dC, R.bind_ok, m, e1]
  obtain ⟨ks, rfl, hk⟩ := pairs_ints yl yp
  refine ⟨ks, S1 ++ [.lst (dI ks)], ?_, box_app b1, by rw [List.length_map, List.length_map] at yl; omega, hk⟩
  have src : iAny (dVar 2) [a0, some (.ref 1), some (tI cs), some (.int b), a4, a5, a6, a7, a8, a9, a10, a11, a12] S = .ok (dI cs, fun _ => True) S := rfl
  unfold A1 dLc
  rw [src, R.bind_ok, e1, R.bind_ok, List.nil_append]
  show R.ok (D.ref S1.length) (S1 ++ [Cell.lst (dI ks)]) = _
  rw [box_len b1]
theorem zB_go {q : Nat} {a0 a1 a2 a3 a5 a6 a7 a8 a9 a11 a12 : Option D} : ∀ (cl as : List Int) (S rest : Sto) (y : Option D), IsBox S rest → rest[q]? = some (.lst (dI as)) → (∀ k ∈ cl, 1 ≤ k ∧ k ≤ (as.length : Int)) →
    ∃ y' S' rest', forGo (fun _ => True) (gN 10) zB (dI cl) [a0, a1, a2, a3, some (.ref (q + 2)), a5, a6, a7, a8, a9, y, a11, a12] S = .nx [a0, a1, a2, a3, some (.ref (q + 2)), a5, a6, a7, a8, a9, y', a11, a12] S' ∧ IsBox S' rest' ∧ rest'[q]? = some (.lst (dI (zset cl as)))
  | [], as, S, rest, y, hS, hA, _ => ⟨y, S, rest, forGo_nil trivial, hS, hA⟩
  | k :: cl, as, S, rest, y, hS, hA, hk => by
    have eg : ∀ u a b c d e f g h i j k l m, (gN 10).run u [a, b, c, d, e, f, g, h, i, j, k, l, m] = some [a, b, c, d, e, f, g, h, i, j, some u, l, m] := fun _ _ _ _ _ _ _ _ _ _ _ _ _ _ => rfl
    have hk1 := hk k (by simp)
    have g : S[q + 2]? = some (.lst (dI as)) := by rw [box_get hS]; exact hA
    have ix : L2.ixN as.length (k - 1) = some (k - 1).toNat := by
      unfold L2.ixN
      rw [if_pos (by omega), if_pos (by omega)]
    have sx : (dI as).set (k - 1).toNat (D.int 0) = dI (as.set (k - 1).toNat 0) := by simp [List.map_set]
    have ql : q < rest.length := (List.getElem?_eq_some_iff.mp hA).1
    have b1 := box_set (q := q) (c := .lst (dI (as.set (k - 1).toNat 0))) hS
    have eb : zB [a0, a1, a2, a3, some (.ref (q + 2)), a5, a6, a7, a8, a9, some (.int k), a11, a12] S = .nx [a0, a1, a2, a3, some (.ref (q + 2)), a5, a6, a7, a8, a9, some (.int k), a11, a12] (S.set (q + 2) (.lst (dI (as.set (k - 1).toNat 0)))) := by
      rw [← sx]
      clear b1 hS hA hk hk1 sx ql
      simp [zB, sPut, bin, dVar, dC, fSub, R.bind_ok, R.lift_ok, g, ix]
    obtain ⟨y', S', rest', ih, j1, j2⟩ := zB_go (q := q) (a0 := a0) (a1 := a1) (a2 := a2) (a3 := a3) (a5 := a5) (a6 := a6) (a7 := a7) (a8 := a8) (a9 := a9) (a11 := a11) (a12 := a12) cl (as.set (k - 1).toNat 0) _ _ (some (.int k)) b1 (by rw [List.getElem?_set_self ql]) (fun x hx => by rw [List.length_set]; exact hk x (List.mem_cons_of_mem _ hx))
    refine ⟨y', S', rest', ?_, j1, j2⟩
    show forGo _ _ _ (D.int k :: dI cl) _ _ = _
    rw [forGo, if_pos trivial, eg]
    simp only [eb]
    exact ih
theorem flat_tI {n : Nat} {l : List Int} (h : l.length ≤ 1000) : flatI (n + 1) (tI l) = true := by
  rw [flatI, Bool.and_eq_true, decide_eq_true_eq, List.all_eq_true]
  refine ⟨by rw [List.length_map]; exact h, fun x hx => ?_⟩
  obtain ⟨k, _, rfl⟩ := List.mem_map.mp hx
  cases n <;> rfl
theorem flat_kD {W F : List Int} {gs : List (Int × List Int)} (hw : W.length ≤ 900) (hF : F.length ≤ 900) (hg : gs.length ≤ 900) (hll : ∀ e ∈ gs, e.2.length ≤ 900) : flatI 5 (kD W F gs) = true := by
  rw [flatI, Bool.and_eq_true, decide_eq_true_eq, List.all_eq_true]
  refine ⟨by simp, fun x hx => ?_⟩
  simp only [List.mem_cons, List.not_mem_nil, or_false] at hx
  rcases hx with rfl | rfl
  · exact flat_tI (by omega)
  · rw [flatI, Bool.and_eq_true, decide_eq_true_eq, List.all_eq_true]
    refine ⟨by simp only [List.length_cons, List.length_map]; omega, fun x hx => ?_⟩
    rcases List.mem_cons.mp hx with rfl | hx
    · exact flat_tI (by omega)
    · obtain ⟨e, he, rfl⟩ := List.mem_map.mp hx
      exact flat_tI (by have := hll e he; omega)
theorem sl1 {cl : List Int} {S : Sto} : fSl false (tI cl) none (some 1) S = .ok (tI (cl.take 1)) S := by
  have c : cutD (dI cl) none (some 1) = dI (cl.take 1) := by
    cases cl with
    | nil => rfl
    | cons x cl =>
      have h : min 1 (cl.length + 1) = 1 := by omega
      simp [cutD, HT.sIx, h]
  show (if _ then R.ok (D.tup (dI cl)) S else R.ok (D.tup (cutD (dI cl) none (some 1))) S) = _
  split
  · rename_i h
    have h2 := h.2
    rw [List.length_map] at h2
    have : cl.take 1 = cl := by
      apply List.take_of_length_le
      have : HT.sIx cl.length cl.length (some 1) ≤ 1 := by
        show min 1 cl.length ≤ 1
        omega
      omega
    rw [this]
  · rw [c]
end K21
end

section
set_option Elab.async false
set_option linter.all false
set_option maxRecDepth 100000
set_option maxHeartbeats 1000000
open Z
local macro_rules | `(tactic| walk_at "z") => `(tactic| simp [fnF_eq, sSeq, sSet, sRet, sIf, sDrop, sNil, sAsg, sPar, sPut, F.then_nx, F.then_rt, F.then_bk, F.then_ct, F.then_ex, F.then_bad, F.then_ite, R.lift_ok, R.lift_ex, R.lift_bad, R.lift_ite, R.bind_ok, R.bind_ex, R.bind_bad, R.bind_ite, F.fin_nx, F.fin_rt, F.fin_ex, F.fin_bad, F.fin_ite, dVar, dC, bin, un, dAnd, dOr, dNot, tB', tAnd', tOr', tNot', dIf, asB_bl, aNil, aCons, dTup, mkT, dLst, mkL, fIx, seqOf, lstOf, L2.atI, L2.ixN, fAdd, fPlus, dSl, oSome, oNone, asI, fSl, fInT, fStr, fIntT, fFmt, dFmt, dJs, fPart, fStarts, fFind, fIsdig, fIsasc, fMulS, fSub, fMul, fLt, fGt, fLe, fGe, fEq, fDiv, fMod, fNeg, fPow, arity, dCall, dCallY, dCallK, noEx, dCB, fGcd, fLen, fMax2, fMin2, fInt, gN, gT, gAll, dIsi, fIsi, isTy, refOk, dIsN, dNotN, dIsB, dNotB, isNon, isBl, sz_lt, sz_le, sRaise, sTry, collapse_const, endX, dXf, dXis, dBM, dBM0, fPop, fApp, fRevM, fIns, fPopAt, tTr, fTr, aStar, dSoSet, sRetN, fTuple, fAbs, tyD, *])
local macro_rules | `(tactic| walk_at "y") => `(tactic| simp [fnF_eq, sSeq, sSet, sRet, sIf, sDrop, sNil, sAsg, sPar, sPut, F.then_nx, F.then_rt, F.then_bk, F.then_ct, F.then_ex, F.then_bad, F.then_ite, R.lift_ok, R.lift_ex, R.lift_bad, R.lift_ite, R.bind_ok, R.bind_ex, R.bind_bad, R.bind_ite, F.fin_nx, F.fin_rt, F.fin_ex, F.fin_bad, F.fin_ite, dVar, dC, bin, un, dAnd, dOr, dNot, tB', tAnd', tOr', tNot', dIf, asB_bl, aNil, aCons, dTup, mkT, dLst, mkL, fIx, seqOf, lstOf, L2.atI, L2.ixN, fAdd, fPlus, dSl, oSome, oNone, asI, fSl, fInT, fStr, fIntT, fFmt, dFmt, dJs, fPart, fStarts, fFind, fIsdig, fIsasc, fMulS, fSub, fMul, fLt, fGt, fLe, fGe, fEq, fDiv, fMod, fNeg, fPow, arity, dCall, dCallY, dCallK, noEx, dCB, fGcd, fLen, fMax2, fMin2, fInt, sFor, iRng1, fRng1, iSeq, asSeq, iAny, asAny, dIsi, fIsi, isTy, refOk, dIsN, dNotN, dIsB, dNotB, isNon, isBl, sz_lt, sz_le, sRaise, sTry, collapse_const, endX, dXf, dXis, dBM, dBM0, fPop, fApp, fRevM, fIns, fPopAt, tTr, fTr, aStar, dSoSet, sRetN, fTuple, fAbs, tyD, *])
local macro_rules | `(tactic| walk_at "v") => `(tactic| simp [fnF_eq, sSeq, sSet, sRet, sIf, sDrop, sNil, sAsg, sPar, sPut, F.then_nx, F.then_rt, F.then_bk, F.then_ct, F.then_ex, F.then_bad, F.then_ite, R.lift_ok, R.lift_ex, R.lift_bad, R.lift_ite, R.bind_ok, R.bind_ex, R.bind_bad, R.bind_ite, F.fin_nx, F.fin_rt, F.fin_ex, F.fin_bad, F.fin_ite, dVar, dC, bin, un, dAnd, dOr, dNot, tB', tAnd', tOr', tNot', dIf, asB_bl, aNil, aCons, dTup, mkT, dLst, mkL, seqOf, lstOf, fAdd, fPlus, dSl, oSome, oNone, asI, fInT, fStr, fIntT, fFmt, dFmt, dJs, fPart, fStarts, fFind, fIsdig, fIsasc, fMulS, fSub, fLt, fGt, fLe, fGe, fEq, fMod, fNeg, fPow, arity, dCall, dCallY, dCallK, noEx, dCB, fGcd, fMax2, fMin2, fInt, gN, gT, gAll, dIsi, fIsi, isTy, refOk, dIsN, dNotN, dIsB, dNotB, isNon, isBl, sz_lt, sz_le, sRaise, sTry, collapse_const, endX, dXf, dXis, dBM, dBM0, tTr, fTr, aStar, sRetN, fAbs, *])
local macro_rules | `(tactic| walk_at "u") => `(tactic| simp [fnF_eq, sSeq, sSet, sRet, sIf, sDrop, sNil, sAsg, sPar, sPut, F.then_nx, F.then_rt, F.then_bk, F.then_ct, F.then_ex, F.then_bad, F.then_ite, R.lift_ok, R.lift_ex, R.lift_bad, R.lift_ite, R.bind_ok, R.bind_ex, R.bind_bad, R.bind_ite, F.fin_nx, F.fin_rt, F.fin_ex, F.fin_bad, F.fin_ite, dVar, dC, bin, un, dAnd, dOr, dNot, tB', tAnd', tOr', tNot', dIf, asB_bl, aNil, aCons, dTup, mkT, dLst, mkL, seqOf, lstOf, fAdd, fPlus, dSl, oSome, oNone, asI, fInT, fStr, fIntT, fFmt, dFmt, dJs, fPart, fStarts, fFind, fIsdig, fIsasc, fMulS, fSub, fLt, fGt, fLe, fGe, fEq, fMod, fNeg, fPow, arity, dCall, dCallY, dCallK, noEx, dCB, fGcd, fMax2, fMin2, fInt, dIsi, fIsi, isTy, refOk, dIsN, dNotN, dIsB, dNotB, isNon, isBl, sz_lt, sz_le, sRaise, sTry, collapse_const, endX, dXf, dXis, dBM, dBM0, tTr, fTr, aStar, sRetN, fAbs, sFor, iAny, iRng1, iEn, *])
local macro_rules | `(tactic| walk_at "t") => `(tactic| simp [fnF_eq, sSeq, sSet, sRet, sIf, sDrop, sNil, sAsg, sPar, sPut, F.then_nx, F.then_rt, F.then_bk, F.then_ct, F.then_ex, F.then_bad, F.then_ite, R.lift_ok, R.lift_ex, R.lift_bad, R.lift_ite, R.bind_ok, R.bind_ex, R.bind_bad, R.bind_ite, F.fin_nx, F.fin_rt, F.fin_ex, F.fin_bad, F.fin_ite, dVar, dC, bin, un, dAnd, dOr, dNot, tB', tAnd', tOr', tNot', dIf, asB_bl, aNil, aCons, dTup, mkT, dLst, mkL, seqOf, lstOf, fAdd, dSl, oSome, oNone, asI, fInT, fStr, fIntT, fFmt, dFmt, dJs, fPart, fStarts, fFind, fIsdig, fIsasc, fMulS, fSub, fLt, fGt, fLe, fGe, fEq, fMod, fNeg, fPow, arity, dCall, dCallY, dCallK, noEx, dCB, fGcd, fMax2, fMin2, fInt, dIsi, fIsi, isTy, refOk, dIsN, dNotN, dIsB, dNotB, isNon, isBl, sz_lt, sz_le, sRaise, sTry, collapse_const, endX, dXf, dXis, dBM, dBM0, tTr, fTr, aStar, sRetN, fAbs, sFor, iAny, iRng1, iEn, *])
namespace K21
theorem TB_eq {as cs : List Int} {b : Int} {q : Nat} {S rest : Sto} {a0 a5 a6 a7 a8 a9 a10 a11 a12 : Option D} (hS : IsBox S rest) (hA : rest[q]? = some (.lst (dI as))) (hb : 0 < b ∧ b < 1000) (hl : as.length = cs.length) (h6 : as.length ≤ 6) (ha : ∀ a ∈ as, 0 ≤ a) (hcs : ∀ c ∈ cs, 0 ≤ c ∧ c < 1000) :
    ∃ z7 z8 z9 z10 z11 z12 S' rest' q' as', TB [a0, some (.ref 1), some (tI cs), some (.int b), some (.ref (q + 2)), a5, a6, a7, a8, a9, a10, a11, a12] S = .nx [a0, some (.ref 1), some (tI cs), some (.int b), some (.ref (q' + 2)), a5, a6, z7, z8, z9, z10, z11, z12] S' ∧ IsBox S' rest' ∧ rest'[q']? = some (.lst (dI as')) ∧ as'.length = as.length ∧ ∀ a ∈ as', 0 ≤ a := by
  have hc0 : ∀ c ∈ cs, 0 ≤ c := fun c hc => (hcs c hc).1
  have r1 := RD_eq (as := as) (b := b) (n := q + 2) (S := S) (a0 := a0) (a1 := some (.ref 1)) (a2 := some (tI cs)) (a5 := a5) (a6 := a6) (a7 := a7) (a8 := a8) (a9 := a9) (a10 := a10) (a11 := a11) (a12 := a12) (by omega) (by rw [box_get hS]; exact hA)
  obtain ⟨F, gs, T1, k1, K⟩ := kind_eq (as := as) (cs := cs) (b := b) (S0 := S) hb hl (by omega)
  have b1 := box_app (T := T1) hS
  have ql : q < rest.length := (List.getElem?_eq_some_iff.mp hA).1
  have hA1 : (rest ++ T1)[q]? = some (.lst (dI as)) := by rw [List.getElem?_append_left ql]; exact hA
  obtain ⟨S2, t1, b2⟩ := tested_eq b1 hA1 K hb hl (by omega) ha hcs
  obtain ⟨cl, cc, S3, c1, b3, hcl, cll⟩ := chosen_eq (n := cs.length) b2 (by omega)
  have hA3 : (rest ++ T1 ++ [cc])[q]? = some (.lst (dI as)) := by rw [List.getElem?_append_left (by rw [List.length_append]; omega)]; exact hA1
  have hcl' : ∀ k ∈ cl, 1 ≤ k ∧ k ≤ (as.length : Int) := fun k hk => by rw [hl]; exact hcl k hk
  obtain ⟨y10, S4, rest4, lp, b4, hA4⟩ := zB_go (q := q) (a0 := a0) (a1 := some (.ref 1)) (a2 := some (tI cs)) (a3 := some (.int b)) (a5 := a5) (a6 := a6) (a7 := some (kD (List.zipWith (wh b) as cs) F gs)) (a8 := a8) (a9 := some (tI cl)) (a11 := a11) (a12 := a12) cl as S3 _ a10 b3 hA3 hcl'
  have zl := zset_len cl as
  have r2 := RD_eq (as := zset cl as) (b := b) (n := q + 2) (S := S4) (a0 := a0) (a1 := some (.ref 1)) (a2 := some (tI cs)) (a5 := a5) (a6 := a6) (a7 := some (kD (List.zipWith (wh b) as cs) F gs)) (a8 := a8) (a9 := some (tI cl)) (a10 := y10) (a11 := a11) (a12 := a12) (by omega) (by rw [box_get b4]; exact hA4)
  obtain ⟨F2, gs2, T2, k2, K2⟩ := kind_eq (as := zset cl as) (cs := cs) (b := b) (S0 := S4) hb (by omega) (by omega)
  have b5 := box_app (T := T2) b4
  have ql4 : q < rest4.length := (List.getElem?_eq_some_iff.mp hA4).1
  have hA5 : (rest4 ++ T2)[q]? = some (.lst (dI (zset cl as))) := by rw [List.getElem?_append_left ql4]; exact hA4
  have ha2 : ∀ a ∈ zset cl as, 0 ≤ a := by
    have : ∀ (cl as : List Int), (∀ a ∈ as, 0 ≤ a) → ∀ a ∈ zset cl as, 0 ≤ a := by
      intro cl
      induction cl with
      | nil => intro as h; exact h
      | cons k cl ih =>
        intro as h
        refine ih _ fun a hx => ?_
        rcases List.mem_or_eq_of_mem_set hx with hx | rfl
        · exact h a hx
        · exact Int.le_refl _
    exact this cl as ha
  have wl : (List.zipWith (wh b) as cs).length ≤ 6 := by rw [List.length_zipWith]; omega
  have wl2 : (List.zipWith (wh b) (zset cl as) cs).length ≤ 6 := by rw [List.length_zipWith]; omega
  have re1 := restart_eq (cl := cl) (W := List.zipWith (wh b) as cs) (F := F) (gs := gs) (S := S4 ++ T2) (by omega) (by have := K.fl; omega) (by omega) (by have := K.gl; omega) (fun e he => by have := K.ll e he; omega)
  rw [agree (cl := cl) (cl' := cl) K K2 hl hb.1 hc0 hcl' fun _ => Iff.rfl] at re1
  have re2 := restart_eq (cl := cl ++ cl.take 1) (W := List.zipWith (wh b) as cs) (F := F) (gs := gs) (S := S4 ++ T2) (by omega) (by have := K.fl; omega) (by rw [List.length_append, List.length_take]; omega) (by have := K.gl; omega) (fun e he => by have := K.ll e he; omega)
  rw [agree (cl := cl) (cl' := cl ++ cl.take 1) K K2 hl hb.1 hc0 hcl' fun k => by
    rw [List.mem_append]
    exact ⟨fun h => h.elim id List.mem_of_mem_take, .inl⟩] at re2
  have sm := same_eq 5 (kD (List.zipWith (wh b) (zset cl as) cs) F2 gs2) (S4 ++ T2) (flat_kD (by omega) (by have := K2.fl; omega) (by have := K2.gl; omega) (fun e he => by have := K2.ll e he; omega))
  obtain ⟨S6, t2, b6⟩ := tested_eq b5 hA5 K2 hb (by omega) (by omega) ha2 hcs
  obtain ⟨s, S7, d1, b7, s0, s1⟩ := draw_eq (n := 3 * b + 1) b6 (by omega) (by omega)
  have a2 := A2_eq (as := zset cl as) (s := s) (n := q + 2) (S := S7) (a0 := a0) (a1 := some (.ref 1)) (a2 := some (tI cs)) (a3 := some (.int b)) (a5 := a5) (a6 := a6) (a7 := some (kD (List.zipWith (wh b) as cs) F gs)) (a8 := a8) (a9 := some (tI cl)) (a10 := y10) (a11 := some (kD (List.zipWith (wh b) (zset cl as) cs) F2 gs2)) (by omega) (by rw [box_get b7]; exact hA5)
  rw [box_len b7] at a2
  refine ⟨some (kD (List.zipWith (wh b) as cs) F gs), a8, some (tI cl), y10, some (kD (List.zipWith (wh b) (zset cl as) cs) F2 gs2), some (.int s), _, _, (rest4 ++ T2).length, (zset cl as).map fun a => a + s, ?_, box_app b7, get_last, by rw [List.length_map]; exact zl, fun a h => ?_⟩
  · have ln : fLen [tI cs] S2 = .ok (.int (cs.length : Int)) S2 := by simp [fLen, seqOf]
    have an : asAny (tI cl) S3 = .ok (dI cl, fun _ => True) S3 := rfl
    have s1' := sl1 (cl := cl) (S := S4 ++ T2)
    have pc : fPlus (tI cl) (tI (cl.take 1)) (S4 ++ T2) = .ok (tI (cl ++ cl.take 1)) (S4 ++ T2) := by
      have f : Fit (cl.length + min 1 cl.length) := of_eq_true (sz_le (by omega))
      simp [fPlus, mkT, f]
    have p3 : ∀ S, fMul (.int 3) (.int b) S = .ok (.int (3 * b)) S := fun S => fMulb (x := 3) (t := 0) hb S
    have pp : ∀ S, fPlus (.int (3 * b)) (.int 1) S = .ok (.int (3 * b + 1)) S := fun S => rfl
    generalize kD (List.zipWith (wh b) as cs) F gs = kd at *
    generalize kD (List.zipWith (wh b) (zset cl as) cs) F2 gs2 = kd2 at *
    generalize tI (cl ++ cl.take 1) = tc2 at *
    generalize tI (cl.take 1) = tc1 at *
    generalize rdD as b = rd1 at *
    generalize rdD (zset cl as) b = rd2 at *
    generalize hT : (rest4 ++ T2).length = Q at *
    generalize S4 ++ T2 = S5 at *
    generalize hT1 : S ++ T1 = S1 at *
    generalize S7 ++ [Cell.lst (dI ((zset cl as).map fun a => a + s))] = S8 at *
    clear hc0 K b1 ql hA1 b2 b3 hcl cll hA3 hcl' b4 hA4 zl K2 b5 ql4 hA5 ha2 wl wl2 b6 b7 s0 s1 hT hT1 hS hA hl h6 ha hcs hb
    generalize dI cl = dcl at *
    generalize tI cl = tcl at *
    generalize tI cs = tcs at *
    unfold TB
    walk_at "t"
  · obtain ⟨x, hx, rfl⟩ := List.mem_map.mp h
    have := ha2 x hx
    omega
end K21
end

section
set_option Elab.async false
set_option linter.all false
set_option maxRecDepth 100000
set_option maxHeartbeats 1000000
open Z
local macro_rules | `(tactic| walk_at "z") => `(tactic| simp [fnF_eq, sSeq, sSet, sRet, sIf, sDrop, sNil, sAsg, sPar, sPut, F.then_nx, F.then_rt, F.then_bk, F.then_ct, F.then_ex, F.then_bad, F.then_ite, R.lift_ok, R.lift_ex, R.lift_bad, R.lift_ite, R.bind_ok, R.bind_ex, R.bind_bad, R.bind_ite, F.fin_nx, F.fin_rt, F.fin_ex, F.fin_bad, F.fin_ite, dVar, dC, bin, un, dAnd, dOr, dNot, tB', tAnd', tOr', tNot', dIf, asB_bl, aNil, aCons, dTup, mkT, dLst, mkL, fIx, seqOf, lstOf, L2.atI, L2.ixN, fAdd, fPlus, dSl, oSome, oNone, asI, fSl, fInT, fStr, fIntT, fFmt, dFmt, dJs, fPart, fStarts, fFind, fIsdig, fIsasc, fMulS, fSub, fMul, fLt, fGt, fLe, fGe, fEq, fDiv, fMod, fNeg, fPow, arity, dCall, dCallY, dCallK, noEx, dCB, fGcd, fLen, fMax2, fMin2, fInt, gN, gT, gAll, dIsi, fIsi, isTy, refOk, dIsN, dNotN, dIsB, dNotB, isNon, isBl, sz_lt, sz_le, sRaise, sTry, collapse_const, endX, dXf, dXis, dBM, dBM0, fPop, fApp, fRevM, fIns, fPopAt, tTr, fTr, aStar, dSoSet, sRetN, fTuple, fAbs, tyD, *])
local macro_rules | `(tactic| walk_at "y") => `(tactic| simp [fnF_eq, sSeq, sSet, sRet, sIf, sDrop, sNil, sAsg, sPar, sPut, F.then_nx, F.then_rt, F.then_bk, F.then_ct, F.then_ex, F.then_bad, F.then_ite, R.lift_ok, R.lift_ex, R.lift_bad, R.lift_ite, R.bind_ok, R.bind_ex, R.bind_bad, R.bind_ite, F.fin_nx, F.fin_rt, F.fin_ex, F.fin_bad, F.fin_ite, dVar, dC, bin, un, dAnd, dOr, dNot, tB', tAnd', tOr', tNot', dIf, asB_bl, aNil, aCons, dTup, mkT, dLst, mkL, fIx, seqOf, lstOf, L2.atI, L2.ixN, fAdd, fPlus, dSl, oSome, oNone, asI, fSl, fInT, fStr, fIntT, fFmt, dFmt, dJs, fPart, fStarts, fFind, fIsdig, fIsasc, fMulS, fSub, fMul, fLt, fGt, fLe, fGe, fEq, fDiv, fMod, fNeg, fPow, arity, dCall, dCallY, dCallK, noEx, dCB, fGcd, fLen, fMax2, fMin2, fInt, sFor, iRng1, fRng1, iSeq, asSeq, iAny, asAny, dIsi, fIsi, isTy, refOk, dIsN, dNotN, dIsB, dNotB, isNon, isBl, sz_lt, sz_le, sRaise, sTry, collapse_const, endX, dXf, dXis, dBM, dBM0, fPop, fApp, fRevM, fIns, fPopAt, tTr, fTr, aStar, dSoSet, sRetN, fTuple, fAbs, tyD, *])
local macro_rules | `(tactic| walk_at "v") => `(tactic| simp [fnF_eq, sSeq, sSet, sRet, sIf, sDrop, sNil, sAsg, sPar, sPut, F.then_nx, F.then_rt, F.then_bk, F.then_ct, F.then_ex, F.then_bad, F.then_ite, R.lift_ok, R.lift_ex, R.lift_bad, R.lift_ite, R.bind_ok, R.bind_ex, R.bind_bad, R.bind_ite, F.fin_nx, F.fin_rt, F.fin_ex, F.fin_bad, F.fin_ite, dVar, dC, bin, un, dAnd, dOr, dNot, tB', tAnd', tOr', tNot', dIf, asB_bl, aNil, aCons, dTup, mkT, dLst, mkL, seqOf, lstOf, fAdd, fPlus, dSl, oSome, oNone, asI, fInT, fStr, fIntT, fFmt, dFmt, dJs, fPart, fStarts, fFind, fIsdig, fIsasc, fMulS, fSub, fLt, fGt, fLe, fGe, fEq, fMod, fNeg, fPow, arity, dCall, dCallY, dCallK, noEx, dCB, fGcd, fMax2, fMin2, fInt, gN, gT, gAll, dIsi, fIsi, isTy, refOk, dIsN, dNotN, dIsB, dNotB, isNon, isBl, sz_lt, sz_le, sRaise, sTry, collapse_const, endX, dXf, dXis, dBM, dBM0, tTr, fTr, aStar, sRetN, fAbs, *])
local macro_rules | `(tactic| walk_at "u") => `(tactic| simp [fnF_eq, sSeq, sSet, sRet, sIf, sDrop, sNil, sAsg, sPar, sPut, F.then_nx, F.then_rt, F.then_bk, F.then_ct, F.then_ex, F.then_bad, F.then_ite, R.lift_ok, R.lift_ex, R.lift_bad, R.lift_ite, R.bind_ok, R.bind_ex, R.bind_bad, R.bind_ite, F.fin_nx, F.fin_rt, F.fin_ex, F.fin_bad, F.fin_ite, dVar, dC, bin, un, dAnd, dOr, dNot, tB', tAnd', tOr', tNot', dIf, asB_bl, aNil, aCons, dTup, mkT, dLst, mkL, seqOf, lstOf, fAdd, fPlus, dSl, oSome, oNone, asI, fInT, fStr, fIntT, fFmt, dFmt, dJs, fPart, fStarts, fFind, fIsdig, fIsasc, fMulS, fSub, fLt, fGt, fLe, fGe, fEq, fMod, fNeg, fPow, arity, dCall, dCallY, dCallK, noEx, dCB, fGcd, fMax2, fMin2, fInt, dIsi, fIsi, isTy, refOk, dIsN, dNotN, dIsB, dNotB, isNon, isBl, sz_lt, sz_le, sRaise, sTry, collapse_const, endX, dXf, dXis, dBM, dBM0, tTr, fTr, aStar, sRetN, fAbs, sFor, iAny, iRng1, iEn, *])
local macro_rules | `(tactic| walk_at "t") => `(tactic| simp [fnF_eq, sSeq, sSet, sRet, sIf, sDrop, sNil, sAsg, sPar, sPut, F.then_nx, F.then_rt, F.then_bk, F.then_ct, F.then_ex, F.then_bad, F.then_ite, R.lift_ok, R.lift_ex, R.lift_bad, R.lift_ite, R.bind_ok, R.bind_ex, R.bind_bad, R.bind_ite, F.fin_nx, F.fin_rt, F.fin_ex, F.fin_bad, F.fin_ite, dVar, dC, bin, un, dAnd, dOr, dNot, tB', tAnd', tOr', tNot', dIf, asB_bl, aNil, aCons, dTup, mkT, dLst, mkL, seqOf, lstOf, fAdd, dSl, oSome, oNone, asI, fInT, fStr, fIntT, fFmt, dFmt, dJs, fPart, fStarts, fFind, fIsdig, fIsasc, fMulS, fSub, fLt, fGt, fLe, fGe, fEq, fMod, fNeg, fPow, arity, dCall, dCallY, dCallK, noEx, dCB, fGcd, fMax2, fMin2, fInt, dIsi, fIsi, isTy, refOk, dIsN, dNotN, dIsB, dNotB, isNon, isBl, sz_lt, sz_le, sRaise, sTry, collapse_const, endX, dXf, dXis, dBM, dBM0, tTr, fTr, aStar, sRetN, fAbs, sFor, iAny, iRng1, iEn, *])
namespace K21
theorem TB_go {cs : List Int} {b : Int} {a0 : Option D} (hb : 0 < b ∧ b < 1000) (h6 : cs.length ≤ 6) (hcs : ∀ c ∈ cs, 0 ≤ c ∧ c < 1000) : ∀ (xs : List D) (as : List Int) (q : Nat) (S rest : Sto) (a5 a6 a7 a8 a9 a10 a11 a12 : Option D), IsBox S rest → rest[q]? = some (.lst (dI as)) → as.length = cs.length → (∀ a ∈ as, 0 ≤ a) →
    ∃ e' S', forGo (fun _ => True) (gN 6) TB xs [a0, some (.ref 1), some (tI cs), some (.int b), some (.ref (q + 2)), a5, a6, a7, a8, a9, a10, a11, a12] S = .nx e' S'
  | [], as, q, S, rest, a5, a6, a7, a8, a9, a10, a11, a12, _, _, _, _ => ⟨_, S, forGo_nil trivial⟩
  | x :: xs, as, q, S, rest, a5, a6, a7, a8, a9, a10, a11, a12, hS, hA, hl, ha => by
    have eg : ∀ u a b c d e f g h i j k l m, (gN 6).run u [a, b, c, d, e, f, g, h, i, j, k, l, m] = some [a, b, c, d, e, f, some u, h, i, j, k, l, m] := fun _ _ _ _ _ _ _ _ _ _ _ _ _ _ => rfl
    obtain ⟨z7, z8, z9, z10, z11, z12, S1, rest1, q1, as1, e1, b1, hA1, l1, ha1⟩ := TB_eq (a0 := a0) (a5 := a5) (a6 := some x) (a7 := a7) (a8 := a8) (a9 := a9) (a10 := a10) (a11 := a11) (a12 := a12) hS hA hb hl (by omega) ha hcs
    obtain ⟨e', S2, ih⟩ := TB_go (a0 := a0) hb h6 hcs xs as1 q1 S1 rest1 a5 (some x) z7 z8 z9 z10 z11 z12 b1 hA1 (by omega) ha1
    refine ⟨e', S2, ?_⟩
    rw [forGo, if_pos trivial, eg]
    simp only [e1]
    exact ih
theorem holds : Holds Flaw := by
  intro ns hl _
  obtain ⟨S0, e0, b0⟩ := box_eq ns hl
  obtain ⟨cs, c, S1, e1, b1, cl1, cl6, hcs⟩ := ceil_eq b0
  obtain ⟨d, S2, e2, b2, d0, d1⟩ := draw_eq (n := 12) b1 (by decide) (by decide)
  have hb : 0 < 1 + d ∧ 1 + d < 1000 := by omega
  obtain ⟨as, S3, e3, b3, al, ha⟩ := A1_eq (b := 1 + d) (a0 := some (.frz (dI ns))) (a4 := none) (a5 := none) (a6 := none) (a7 := none) (a8 := none) (a9 := none) (a10 := none) (a11 := none) (a12 := none) b2 (by omega) hcs hb
  obtain ⟨t, S4, e4, b4, t0, t1⟩ := draw_eq (n := 4) b3 (by decide) (by decide)
  obtain ⟨e', S5, lp⟩ := TB_go (a0 := some (.frz (dI ns))) hb cl6 hcs (rngD 0 (1 + t).toNat) as ([] ++ [c]).length S4 _ none none none none none none none none b4 get_last al ha
  have r1 : Rok (1 + t) := by unfold Rok big; omega
  have rg : fRng1 [.int (1 + t)] S4 = .ok (rngD 0 (1 + t).toNat, fun _ => True) S4 := if_pos r1
  refine ⟨S5, ?_⟩
  simp only [List.nil_append, List.length_cons, List.length_nil, Nat.zero_add, Nat.reduceAdd] at lp e3
  rw [law_def]
  clear b0 b1 b2 b3 b4 hcs cl1 cl6 al ha hb hl d0 d1 t0 t1 r1
  generalize rngD 0 (1 + t).toNat = xs at *
  walk_at "u"
end K21
end

section
set_option Elab.async false
set_option linter.all false
set_option maxRecDepth 100000
set_option maxHeartbeats 4000000
namespace K21
open PySem PySem.Spec PyProof.Rows L2 Z
/-! ### what the top leaves -/
structure Tx (K : PySem.W.Frag) (mg : Str → Option Value) where
  b_ValueError : mg "ValueError" = none
  b_abs : mg "abs" = none
  b_bool : mg "bool" = none
  b_enumerate : mg "enumerate" = none
  b_int : mg "int" = none
  b_isinstance : mg "isinstance" = none
  b_len : mg "len" = none
  b_min : mg "min" = none
  b_range : mg "range" = none
  b_set : mg "set" = none
  b_sorted : mg "sorted" = none
  b_str : mg "str" = none
  b_tuple : mg "tuple" = none
  c_BellError : Addr
  gl_BellError : mg "BellError" = some (.ref c_BellError)
  c_InvalidKind : Addr
  ci_InvalidKind : Addr
  di_InvalidKind : FuncData
  e_InvalidKind : ErrC K mg "InvalidKind" c_InvalidKind ["value"]
  i_InvalidKind : PySem.W.findIn K (.ref c_InvalidKind) "__init__" = some (some (.ref ci_InvalidKind))
  t_InvalidKind : PySem.W.typeIn K (.ref ci_InvalidKind) = some (.type "function")
  u_InvalidKind : Fun K "__init__" "InvalidKind.__init__" sInvalidKind ci_InvalidKind di_InvalidKind
  x_InvalidKind : PySem.W.exmOne K (.ref c_InvalidKind) (.ref c_InvalidKind) = some true
  c_BeyondCeiling : Addr
  ci_BeyondCeiling : Addr
  di_BeyondCeiling : FuncData
  e_BeyondCeiling : ErrC K mg "BeyondCeiling" c_BeyondCeiling ["clock", "limit"]
  i_BeyondCeiling : PySem.W.findIn K (.ref c_BeyondCeiling) "__init__" = some (some (.ref ci_BeyondCeiling))
  t_BeyondCeiling : PySem.W.typeIn K (.ref ci_BeyondCeiling) = some (.type "function")
  u_BeyondCeiling : Fun K "__init__" "BeyondCeiling.__init__" sBeyondCeiling ci_BeyondCeiling di_BeyondCeiling
  x_BeyondCeiling : PySem.W.exmOne K (.ref c_BeyondCeiling) (.ref c_BeyondCeiling) = some true
  k_BeyondCeiling_BellError : PySem.W.kitOne K (.ref c_BeyondCeiling) (.ref c_BellError) = some true
  k_BeyondCeiling_InvalidKind : PySem.W.kitOne K (.ref c_BeyondCeiling) (.ref c_InvalidKind) = some false
  k_BeyondCeiling_ValueError : PySem.W.kitOne K (.ref c_BeyondCeiling) (.type "ValueError") = some true
  a_place_of : Addr
  d_place_of : FuncData
  g_place_of : mg "place_of" = some (.ref a_place_of)
  u_place_of : Fun K "place_of" "place_of" splace_of a_place_of d_place_of
  k_place_of : PySem.W.keepIn K (.ref a_place_of) = true
  a_place_in : Addr
  d_place_in : FuncData
  g_place_in : mg "place_in" = some (.ref a_place_in)
  u_place_in : Fun K "place_in" "place_in" splace_in a_place_in d_place_in
  k_place_in : PySem.W.keepIn K (.ref a_place_in) = true
  a_kind_in : Addr
  d_kind_in : FuncData
  g_kind_in : mg "kind_in" = some (.ref a_kind_in)
  u_kind_in : Fun K "kind_in" "kind_in" skind_in a_kind_in d_kind_in
  k_kind_in : PySem.W.keepIn K (.ref a_kind_in) = true
  a_restart_kind : Addr
  d_restart_kind : FuncData
  g_restart_kind : mg "restart_kind" = some (.ref a_restart_kind)
  u_restart_kind : Fun K "restart_kind" "restart_kind" srestart_kind a_restart_kind d_restart_kind
  k_restart_kind : PySem.W.keepIn K (.ref a_restart_kind) = true
  a__law_box : Addr
  d__law_box : FuncData
  g__law_box : mg "_law_box" = some (.ref a__law_box)
  u__law_box : Fun K "_law_box" "_law_box" s_law_box a__law_box d__law_box
  k__law_box : PySem.W.keepIn K (.ref a__law_box) = true
  a__law_draw : Addr
  d__law_draw : FuncData
  g__law_draw : mg "_law_draw" = some (.ref a__law_draw)
  u__law_draw : Fun K "_law_draw" "_law_draw" s_law_draw a__law_draw d__law_draw
  k__law_draw : PySem.W.keepIn K (.ref a__law_draw) = true
  a__law_is_int : Addr
  d__law_is_int : FuncData
  g__law_is_int : mg "_law_is_int" = some (.ref a__law_is_int)
  u__law_is_int : Fun K "_law_is_int" "_law_is_int" s_law_is_int a__law_is_int d__law_is_int
  k__law_is_int : PySem.W.keepIn K (.ref a__law_is_int) = true
  a__law_same : Addr
  d__law_same : FuncData
  g__law_same : mg "_law_same" = some (.ref a__law_same)
  u__law_same : Fun K "_law_same" "_law_same" s_law_same a__law_same d__law_same
  k__law_same : PySem.W.keepIn K (.ref a__law_same) = true
  a__law_placed : Addr
  d__law_placed : FuncData
  g__law_placed : mg "_law_placed" = some (.ref a__law_placed)
  u__law_placed : Fun K "_law_placed" "_law_placed" s_law_placed a__law_placed d__law_placed
  k__law_placed : PySem.W.keepIn K (.ref a__law_placed) = true
  a__law_kind : Addr
  d__law_kind : FuncData
  g__law_kind : mg "_law_kind" = some (.ref a__law_kind)
  u__law_kind : Fun K "_law_kind" "_law_kind" s_law_kind a__law_kind d__law_kind
  k__law_kind : PySem.W.keepIn K (.ref a__law_kind) = true
  a__law_ceilings : Addr
  d__law_ceilings : FuncData
  g__law_ceilings : mg "_law_ceilings" = some (.ref a__law_ceilings)
  u__law_ceilings : Fun K "_law_ceilings" "_law_ceilings" s_law_ceilings a__law_ceilings d__law_ceilings
  k__law_ceilings : PySem.W.keepIn K (.ref a__law_ceilings) = true
  a__law_span : Addr
  d__law_span : FuncData
  g__law_span : mg "_law_span" = some (.ref a__law_span)
  u__law_span : Fun K "_law_span" "_law_span" s_law_span a__law_span d__law_span
  k__law_span : PySem.W.keepIn K (.ref a__law_span) = true
  a__law_in_span : Addr
  d__law_in_span : FuncData
  g__law_in_span : mg "_law_in_span" = some (.ref a__law_in_span)
  u__law_in_span : Fun K "_law_in_span" "_law_in_span" s_law_in_span a__law_in_span d__law_in_span
  k__law_in_span : PySem.W.keepIn K (.ref a__law_in_span) = true
  a__law_too_great : Addr
  d__law_too_great : FuncData
  g__law_too_great : mg "_law_too_great" = some (.ref a__law_too_great)
  u__law_too_great : Fun K "_law_too_great" "_law_too_great" s_law_too_great a__law_too_great d__law_too_great
  k__law_too_great : PySem.W.keepIn K (.ref a__law_too_great) = true
  a__law_refused : Addr
  d__law_refused : FuncData
  g__law_refused : mg "_law_refused" = some (.ref a__law_refused)
  u__law_refused : Fun K "_law_refused" "_law_refused" s_law_refused a__law_refused d__law_refused
  k__law_refused : PySem.W.keepIn K (.ref a__law_refused) = true
  a__law_tested : Addr
  d__law_tested : FuncData
  g__law_tested : mg "_law_tested" = some (.ref a__law_tested)
  u__law_tested : Fun K "_law_tested" "_law_tested" s_law_tested a__law_tested d__law_tested
  k__law_tested : PySem.W.keepIn K (.ref a__law_tested) = true
  a__law_chosen : Addr
  d__law_chosen : FuncData
  g__law_chosen : mg "_law_chosen" = some (.ref a__law_chosen)
  u__law_chosen : Fun K "_law_chosen" "_law_chosen" s_law_chosen a__law_chosen d__law_chosen
  k__law_chosen : PySem.W.keepIn K (.ref a__law_chosen) = true
  a_law : Addr
  d_law : FuncData
  g_law : mg "law" = some (.ref a_law)
  u_law : Fun K "law" "law" slaw a_law d_law
  k_law : PySem.W.keepIn K (.ref a_law) = true
section
variable {P : Program} {w : World} {K : PySem.W.Frag} {mg : Str → Option Value} {base : Heap}
theorem in_InvalidKind (T : Tx K mg) : FnOk P w K mg base (L2N.CX P w) 1 T.ci_InvalidKind T.di_InvalidKind ["self", "value"] (spI1 K T.c_InvalidKind "value") := by
  refine fun_okN T.u_InvalidKind scInvalidKind (fun vs H Q E h => ?_) fun cdv A outer s H vs Q E hr h => ⟨_, pss_one (ps_ost (pv 0) (pv 1)), read_I1 h rfl⟩
  obtain ⟨a, y, rfl, _⟩ := h
  rfl
theorem bi_InvalidKind (T : Tx K mg) : Binds K T.di_InvalidKind ["self", "value"] [] := T.u_InvalidKind.binds fun _ _ _ _ _ _ us hl => match us, hl with | [_, _], _ => rfl
theorem in_BeyondCeiling (T : Tx K mg) : FnOk P w K mg base (L2N.CX P w) 1 T.ci_BeyondCeiling T.di_BeyondCeiling ["self", "clock", "limit"] (spI2 K T.c_BeyondCeiling "clock" "limit") := by
  refine fun_okN T.u_BeyondCeiling scBeyondCeiling (fun vs H Q E h => ?_) fun cdv A outer s H vs Q E hr h => ⟨_, pss_cons (ps_ost (pv 0) (pv 1)) (pss_one (ps_ost (pv 0) (pv 2))), read_I2 h rfl⟩
  obtain ⟨a, y, z, rfl, _⟩ := h
  rfl
theorem bi_BeyondCeiling (T : Tx K mg) : Binds K T.di_BeyondCeiling ["self", "clock", "limit"] [] := T.u_BeyondCeiling.binds fun _ _ _ _ _ _ us hl => match us, hl with | [_, _, _], _ => rfl
theorem bd_place_of (T : Tx K mg) : Binds K T.d_place_of ["kind", "clock"] [] := T.u_place_of.binds fun _ _ _ _ _ _ us hl => match us, hl with | [_, _], _ => rfl
theorem bd_place_in (T : Tx K mg) : Binds K T.d_place_in ["place", "span"] [] := T.u_place_in.binds fun _ _ _ _ _ _ us hl => match us, hl with | [_, _], _ => rfl
theorem bd_kind_in (T : Tx K mg) : Binds K T.d_kind_in ["kind", "ceilings", "clock", "span"] [] := T.u_kind_in.binds fun _ _ _ _ _ _ us hl => match us, hl with | [_, _, _, _], _ => rfl
theorem bd_restart_kind (T : Tx K mg) : Binds K T.d_restart_kind ["kind", "clocks"] [] := T.u_restart_kind.binds fun _ _ _ _ _ _ us hl => match us, hl with | [_, _], _ => rfl
theorem bd__law_box (T : Tx K mg) : Binds K T.d__law_box ["script"] [] := T.u__law_box.binds fun _ _ _ _ _ _ us hl => match us, hl with | [_], _ => rfl
theorem bd__law_draw (T : Tx K mg) : Binds K T.d__law_draw ["box", "many"] [] := T.u__law_draw.binds fun _ _ _ _ _ _ us hl => match us, hl with | [_, _], _ => rfl
theorem bd__law_is_int (T : Tx K mg) : Binds K T.d__law_is_int ["value"] [] := T.u__law_is_int.binds fun _ _ _ _ _ _ us hl => match us, hl with | [_], _ => rfl
theorem bd__law_same (T : Tx K mg) : Binds K T.d__law_same ["actual", "due"] [] := T.u__law_same.binds fun _ _ _ _ _ _ us hl => match us, hl with | [_, _], _ => rfl
theorem bd__law_placed (T : Tx K mg) : Binds K T.d__law_placed ["groups", "top", "bottom", "clock"] [] := T.u__law_placed.binds fun _ _ _ _ _ _ us hl => match us, hl with | [_, _, _, _], _ => rfl
theorem bd__law_kind (T : Tx K mg) : Binds K T.d__law_kind ["readings", "ceilings"] [] := T.u__law_kind.binds fun _ _ _ _ _ _ us hl => match us, hl with | [_, _], _ => rfl
theorem bd__law_ceilings (T : Tx K mg) : Binds K T.d__law_ceilings ["box", "most"] [] := T.u__law_ceilings.binds fun _ _ _ _ _ _ us hl => match us, hl with | [_, _], _ => rfl
theorem bd__law_span (T : Tx K mg) : Binds K T.d__law_span ["box", "ceiling", "amount", "bottom"] [] := T.u__law_span.binds fun _ _ _ _ _ _ us hl => match us, hl with | [_, _, _, _], _ => rfl
theorem bd__law_in_span (T : Tx K mg) : Binds K T.d__law_in_span ["amount", "bottom", "span"] [] := T.u__law_in_span.binds fun _ _ _ _ _ _ us hl => match us, hl with | [_, _, _], _ => rfl
theorem bd__law_too_great (T : Tx K mg) : Binds K T.d__law_too_great ["ceiling", "span"] [] := T.u__law_too_great.binds fun _ _ _ _ _ _ us hl => match us, hl with | [_, _], _ => rfl
theorem bd__law_refused (T : Tx K mg) : Binds K T.d__law_refused ["kind", "ceilings", "clock", "span", "limit"] [] := T.u__law_refused.binds fun _ _ _ _ _ _ us hl => match us, hl with | [_, _, _, _, _], _ => rfl
theorem bd__law_tested (T : Tx K mg) : Binds K T.d__law_tested ["box", "kind", "amounts", "bottom", "ceilings"] [] := T.u__law_tested.binds fun _ _ _ _ _ _ us hl => match us, hl with | [_, _, _, _, _], _ => rfl
theorem bd__law_chosen (T : Tx K mg) : Binds K T.d__law_chosen ["box", "many"] [] := T.u__law_chosen.binds fun _ _ _ _ _ _ us hl => match us, hl with | [_, _], _ => rfl
theorem bd_law (T : Tx K mg) : Binds K T.d_law ["script"] [] := T.u_law.binds fun _ _ _ _ _ _ us hl => match us, hl with | [_], _ => rfl
theorem ok_place_of (T : Tx K mg) : FnZ P w K mg base 1 T.a_place_of T.d_place_of ["kind", "clock"] Fplace_of := by
  exact fn_ok T.u_place_of (k := 0) scplace_of (by decide) fun cdv A outer s H E hr tk =>
    ss_cons (s_asg (ev 0) (g_t rfl (gs_cons (g_n 2 scplace_of.nd) (gs_cons (g_n 3 scplace_of.nd) (gs_nil))))) (ss_cons (s_for rfl (i_en (by rfl) T.b_enumerate (ev 3)) (g_t rfl (gs_cons (g_n 4 scplace_of.nd) (gs_cons (g_n 5 scplace_of.nd) (gs_nil)))) (ss_one (s_if (t_cmp oInT sInT (ev 1) (ev 5) (by rfl)) (ss_one (s_ret (e_op oPlus sPlus (e_op oMul sMul (ec_int) (e_ix ix_seq sIx (ev 2) (e_op op_sub sSub (ev 1) (ec_int)))) (e_if (t_cmp op_gt sGt (ev 4) (ec_int)) (ec_int) (ec_int))))) (ss_nil))) (passes_of rfl)) (ss_one (s_ret (ec_non))))
theorem ok_place_in (T : Tx K mg) : FnZ P w K mg base 1 T.a_place_in T.d_place_in ["place", "span"] Fplace_in := by
  exact fn_ok T.u_place_in (k := 0) scplace_in (by decide) fun cdv A outer s H E hr tk =>
    ss_cons (s_asg (ev 1) (g_t rfl (gs_cons (g_n 2 scplace_in.nd) (gs_cons (g_n 3 scplace_in.nd) (gs_nil))))) (ss_cons (s_if (t_isN (ev 0)) (ss_one (s_ret (e_isN (ev 3)))) (ss_nil)) (ss_cons (s_if (t_cmp op_lt sLt (ev 0) (e_op op_sub sSub (e_op oPlus sPlus (e_op oMul sMul (ec_int) (e_ix ix_seq sIx (ev 2) (ec_int))) (ec_int)) (e_ix ix_seq sIx (ev 2) (ec_int)))) (ss_one (s_ret (ec_bl))) (ss_nil)) (ss_one (s_ret (e_or (e_isN (ev 3)) (e_one (e_cmp op_le sLe (ev 0) (e_op oPlus sPlus (e_op op_sub sSub (e_op oMul sMul (ec_int) (e_ix ix_seq sIx (ev 3) (ec_int))) (ec_int)) (e_ix ix_seq sIx (ev 3) (ec_int))))))))))
theorem ok_kind_in (T : Tx K mg) : FnZ P w K mg base 3 T.a_kind_in T.d_kind_in ["kind", "ceilings", "clock", "span"] Fkind_in := by
  have G_place_in := ok_place_in (P := P) (w := w) (base := base) T
  have G_place_of := ok_place_of (P := P) (w := w) (base := base) T
  exact fn_ok T.u_kind_in (k := 2) sckind_in (by decide) fun cdv A outer s H E hr tk =>
    ss_cons (s_for rfl (i_any (ev 3)) (g_n 4 sckind_in.nd) (ss_one (s_if (PW.pt (w_and (t_notN (ev 4)) (w_and1 (t_cmp op_gt sGt (e_ix ix_seq sIx (ev 4) (ec_int)) (e_ix ix_seq sIx (ev 1) (e_op op_sub sSub (ev 2) (ec_int))))))) (ss_one (s_raise2 T.e_BeyondCeiling T.i_BeyondCeiling T.t_BeyondCeiling (in_BeyondCeiling T) (hr.mono (by omega)) (bi_BeyondCeiling T) tk (a_cons (ev 2) (a_cons (e_ix ix_seq sIx (ev 4) (ec_int)) (a_nil))))) (ss_nil))) (passes_of rfl)) (ss_one (s_ret (e_call G_place_in (hr.mono (by omega)) T.g_place_in T.k_place_in (bd_place_in T) .nil .nil tk (a_cons (e_call G_place_of (hr.mono (by omega)) T.g_place_of T.k_place_of (bd_place_of T) .nil .nil tk (a_cons (ev 0) (a_cons (ev 2) (a_nil)))) (a_cons (ev 3) (a_nil))))))
theorem ok_restart_kind (T : Tx K mg) : FnZ P w K mg base 1 T.a_restart_kind T.d_restart_kind ["kind", "clocks"] Frestart_kind := by
  exact fn_ok T.u_restart_kind (k := 0) screstart_kind (by decide) fun cdv A outer s H E hr tk =>
    ss_cons (s_asg (ev 0) (g_t rfl (gs_cons (g_n 2 screstart_kind.nd) (gs_cons (g_n 3 screstart_kind.nd) (gs_nil))))) (ss_cons (s_set (i := 4) screstart_kind.nd (e_ct call_tuple_of sTuple (by rfl) T.b_tuple (by decide +kernel) (a_cons (e_lc (own := [("clock", 5), ("whole", 6)]) false rfl screstart_kind.nd (i_enK (by decide) (by decide) (by rfl) T.b_enumerate (ev 2)) (blkOk_by (N := Nrestart_kind) (sc := defScope srestart_kind) (by decide +kernel)) (fun _ _ _ _ _ => by exact g_t rfl (gs_cons (g_n 5 screstart_kind.nd) (gs_cons (g_n 6 screstart_kind.nd) (gs_nil)))) (fun _ _ _ _ _ => by exact ts_nil) (fun _ _ _ _ _ => by exact e_if (t_cmp oInT sInT (ev 5) (ev 1) (by rfl)) (ec_int) (ev 6)) (by decide)) (a_nil)))) (ss_cons (s_setLc (own := [("group", 8)]) false (i := 7) rfl screstart_kind.nd rfl rfl (sw_true rfl rfl rfl (by decide +kernel)) (i_any (e_sl false (ev 3) (o_some (ec_int)) (o_none))) (blkOk_by (N := Nrestart_kind) (sc := defScope srestart_kind) (by decide +kernel)) (fun _ _ _ _ _ => by exact g_n 8 screstart_kind.nd) (fun _ _ _ _ _ => by exact ts_nil) (fun _ _ _ _ _ => by exact e_ct call_tuple_of sTuple (by rfl) T.b_tuple (by decide +kernel) (a_cons (e_lc (own := [("clock", 5)]) false rfl screstart_kind.nd (i_any (ev 8)) (blk_rel (blkOk_by (N := Nrestart_kind) (sc := { kind := ScopeKind.function, names := [(Str.ofString ".0", NameKind.local), (Str.ofString "group", NameKind.local), (Str.ofString "tuple", NameKind.globalImplicit), (Str.ofString "clocks", NameKind.free)], isGenerator := false, isCoroutine := false }) (by decide +kernel))) (fun _ _ _ _ _ => by exact g_n 5 screstart_kind.nd) (fun _ _ _ _ _ => by exact ts_one (t_cmp oNotInT sInT (ev 5) (ev 1) (by rfl))) (fun _ _ _ _ _ => by exact ev 5) (by decide)) (a_nil))) (by decide)) (ss_one (s_ret (e_tup (a_cons (ev 4) (a_cons (e_tup (a_cons (e_ct call_tuple_of sTuple (by rfl) T.b_tuple (by decide +kernel) (a_cons (e_soSet rfl (by rfl) T.b_sorted (by rfl) T.b_set (e_op oPlus sPlus (e_ix ix_seq sIx (ev 3) (ec_int)) (ev 1))) (a_nil))) (a_star (e_lc (own := [("group", 8)]) false rfl screstart_kind.nd (i_any (ev 7)) (blkOk_by (N := Nrestart_kind) (sc := defScope srestart_kind) (by decide +kernel)) (fun _ _ _ _ _ => by exact g_n 8 screstart_kind.nd) (fun _ _ _ _ _ => by exact ts_one (t_Tr (ev 8))) (fun _ _ _ _ _ => by exact ev 8) (by decide)) (a_nil)))) (a_nil))))))))
theorem ok__law_box (T : Tx K mg) : FnZ P w K mg base 1 T.a__law_box T.d__law_box ["script"] F_law_box := by
  exact fn_ok T.u__law_box (k := 0) sc_law_box (by decide) fun cdv A outer s H E hr tk =>
    ss_cons (s_setLc (own := [("cell", 2)]) false (i := 1) rfl sc_law_box.nd rfl rfl (sw_true rfl rfl rfl (by decide +kernel)) (i_any (e_sl false (ev 0) (o_none) (o_some (ec_int)))) (blkOk_by (N := N_law_box) (sc := defScope s_law_box) (by decide +kernel)) (fun _ _ _ _ _ => by exact g_n 2 sc_law_box.nd) (fun _ _ _ _ _ => by exact ts_nil) (fun _ _ _ _ _ => by exact e_cb call_abs sAbs (by rfl) T.b_abs (by decide +kernel) (a_cons (ev 2) (a_nil))) (by decide)) (ss_cons (s_setLc (own := [("cell", 2)]) true (i := 3) rfl sc_law_box.nd rfl rfl (sw_true rfl rfl rfl (by decide +kernel)) (i_any (ev 1)) (blkOk_by (N := N_law_box) (sc := defScope s_law_box) (by decide +kernel)) (fun _ _ _ _ _ => by exact g_n 2 sc_law_box.nd) (fun _ _ _ _ _ => by exact ts_one (t_cmp op_ge sGe (ev 2) (e_op op_pow sPow (ec_int) (ec_int)))) (fun _ _ _ _ _ => by exact ev 2) (by decide)) (ss_cons (s_setLc (own := [("cell", 2)]) false (i := 4) rfl sc_law_box.nd rfl rfl (sw_true rfl rfl rfl (by decide +kernel)) (i_any (ev 1)) (blkOk_by (N := N_law_box) (sc := defScope s_law_box) (by decide +kernel)) (fun _ _ _ _ _ => by exact g_n 2 sc_law_box.nd) (fun _ _ _ _ _ => by exact ts_one (t_cmp op_lt sLt (ev 2) (e_op op_pow sPow (ec_int) (ec_int)))) (fun _ _ _ _ _ => by exact ev 2) (by decide)) (ss_cons (s_if (t_not (t_Tr (ev 4))) (ss_one (s_set (i := 4) sc_law_box.nd (e_op oPlus sPlus (e_lc (own := [("cell", 2)]) false rfl sc_law_box.nd (i_any (ev 3)) (blkOk_by (N := N_law_box) (sc := defScope s_law_box) (by decide +kernel)) (fun _ _ _ _ _ => by exact g_n 2 sc_law_box.nd) (fun _ _ _ _ _ => by exact ts_nil) (fun _ _ _ _ _ => by exact e_op op_mod sMod (e_ct cr_intT sIntT (by rfl) T.b_int (by decide +kernel) (a_cons (ev 2) (a_nil))) (ec_int)) (by decide)) (e_lst false (a_cons (ec_int) (a_nil)))))) (ss_nil)) (ss_one (s_ret (e_lst true (a_cons (ev 3) (a_cons (ev 4) (a_cons (ec_int) (a_nil))))))))))
theorem ok__law_draw (T : Tx K mg) : FnZ P w K mg base 1 T.a__law_draw T.d__law_draw ["box", "many"] F_law_draw := by
  exact fn_ok T.u__law_draw (k := 0) sc_law_draw (by decide) fun cdv A outer s H E hr tk =>
    ss_cons (s_set (i := 2) sc_law_draw.nd (e_ix ix_seq sIx (ev 0) (ec_int))) (ss_cons (s_set (i := 3) sc_law_draw.nd (e_ix ix_seq sIx (ev 0) (ec_int))) (ss_cons (s_set (i := 4) sc_law_draw.nd (e_op oPlus sPlus (e_ix ix_seq sIx (ev 0) (ec_int)) (ec_int))) (ss_cons (s_put (pg_sub (ev 0) (ec_int) set_list) (ev 4) rfl) (ss_cons (s_if (t_Tr (ev 2)) (ss_cons (s_set (i := 5) sc_law_draw.nd (e_op op_mod sMod (e_ct cr_intT sIntT (by rfl) T.b_int (by decide +kernel) (a_cons (e_ix ix_seq sIx (ev 2) (ec_int)) (a_nil))) (ev 1))) (ss_cons (s_put (pg_sub (ev 2) (ec_int) set_list) (e_op op_fdivW sDiv (e_ix ix_seq sIx (ev 2) (ec_int)) (ev 1)) rfl) (ss_cons (s_if (t_cmp (oEq hr.units) sEq (e_ix ix_seq sIx (ev 2) (ec_int)) (ec_int)) (ss_one (s_expr (e_bm .list PySem.F.plainAttrs_list PySem.F.slot_list_pop PySem.F.type_list_pop mt_popAt sPopAt (ev 2) (a_cons (ec_int) (a_nil))))) (ss_nil)) (ss_one (s_ret (ev 5)))))) (ss_nil)) (ss_cons (s_set (i := 6) sc_law_draw.nd (e_op op_mod sMod (e_ct cr_intT sIntT (by rfl) T.b_int (by decide +kernel) (a_cons (e_op oPlus sPlus (e_op oPlus sPlus (e_op oMul sMul (e_ix ix_seq sIx (ev 3) (e_op op_mod sMod (e_ct cr_intT sIntT (by rfl) T.b_int (by decide +kernel) (a_cons (ev 4) (a_nil))) (e_cb call_len sLen (by rfl) T.b_len (by decide +kernel) (a_cons (ev 3) (a_nil))))) (ec_int)) (e_op oMul sMul (ev 4) (ec_int))) (ec_int)) (a_nil))) (ec_int))) (ss_cons (s_set (i := 7) sc_law_draw.nd (e_op op_mod sMod (e_ct cr_intT sIntT (by rfl) T.b_int (by decide +kernel) (a_cons (e_op oPlus sPlus (e_op oMul sMul (ev 6) (e_op oPlus sPlus (e_op op_mod sMod (e_ct cr_intT sIntT (by rfl) T.b_int (by decide +kernel) (a_cons (ev 6) (a_nil))) (ec_int)) (ec_int))) (e_op oMul sMul (ev 4) (ec_int))) (a_nil))) (ec_int))) (ss_one (s_ret (e_op op_mod sMod (e_ct cr_intT sIntT (by rfl) T.b_int (by decide +kernel) (a_cons (e_op op_fdivW sDiv (ev 7) (ec_int)) (a_nil))) (ev 1))))))))))
theorem ok__law_is_int (T : Tx K mg) : FnZ P w K mg base 1 T.a__law_is_int T.d__law_is_int ["value"] F_law_is_int := by
  exact fn_ok T.u__law_is_int (k := 0) sc_law_is_int (by decide) fun cdv A outer s H E hr tk =>
    ss_one (s_ret (e_and (e_isi .int rfl (by rfl) T.b_isinstance (by rfl) T.b_int (ev 0)) (e_one (e_not (e_isi .bool rfl (by rfl) T.b_isinstance (by rfl) T.b_bool (ev 0))))))
theorem okH__law_is_int (T : Tx K mg) : FnZH P w K mg base 1 T.a__law_is_int T.d__law_is_int ["value"] F_law_is_int := by
  exact fn_okH T.u__law_is_int (k := 0) sc_law_is_int (by decide) fun cdv A outer s H E p hr hot tk =>
    ss_one (s_ret (e_and (e_isi .int rfl (by rfl) T.b_isinstance (by rfl) T.b_int (ev 0)) (e_one (e_not (e_isi .bool rfl (by rfl) T.b_isinstance (by rfl) T.b_bool (ev 0))))))
theorem ok__law_same (T : Tx K mg) : ∀ n : Nat, FnZ P w K mg base (2 + n) T.a__law_same T.d__law_same ["actual", "due"] (F_law_same n)
  | 0 => fn_bad
  | n + 1 => by
    have G__law_is_int := ok__law_is_int (P := P) (w := w) (base := base) T
    have G__law_same := ok__law_same T n
    exact fn_ok T.u__law_same (k := 2 + n) sc_law_same (by decide) fun cdv A outer s H E hr tk =>
      ss_cons (s_if (t_B (e_isi .tup rfl (by rfl) T.b_isinstance (by rfl) T.b_tuple (ev 1))) (ss_cons (s_if (PW.pt (w_or (t_not (t_B (e_isi .tup rfl (by rfl) T.b_isinstance (by rfl) T.b_tuple (ev 0)))) (w_or1 (t_cmp (oNe hr.units) sNe (e_cb call_len sLen (by rfl) T.b_len (by decide +kernel) (a_cons (ev 0) (a_nil))) (e_cb call_len sLen (by rfl) T.b_len (by decide +kernel) (a_cons (ev 1) (a_nil))))))) (ss_one (s_ret (ec_bl))) (ss_nil)) (ss_cons (s_for rfl (i_rng1 (by rfl) T.b_range (a_cons (e_cb call_len sLen (by rfl) T.b_len (by decide +kernel) (a_cons (ev 1) (a_nil))) (a_nil))) (g_n 2 sc_law_same.nd) (ss_one (s_if (t_not (t_B (e_call G__law_same (hr.mono (by omega)) T.g__law_same T.k__law_same (bd__law_same T) .nil .nil tk (a_cons (e_ix ix_seq sIx (ev 0) (ev 2)) (a_cons (e_ix ix_seq sIx (ev 1) (ev 2)) (a_nil)))))) (ss_one (s_ret (ec_bl))) (ss_nil))) (passes_of rfl)) (ss_one (s_ret (ec_bl))))) (ss_nil)) (ss_cons (s_if (t_B (e_isi .str rfl (by rfl) T.b_isinstance (by rfl) T.b_str (ev 1))) (ss_one (s_ret (e_and (e_isi .str rfl (by rfl) T.b_isinstance (by rfl) T.b_str (ev 0)) (e_one (e_cmp (oEq hr.units) sEq (ev 0) (ev 1)))))) (ss_nil)) (ss_cons (s_if (t_isN (ev 1)) (ss_one (s_ret (e_isN (ev 0)))) (ss_nil)) (ss_one (s_ret (e_and (e_call G__law_is_int (hr.mono (by omega)) T.g__law_is_int T.k__law_is_int (bd__law_is_int T) .nil .nil tk (a_cons (ev 0) (a_nil))) (e_one (e_cmp (oEq hr.units) sEq (ev 0) (ev 1))))))))
theorem okH__law_same (T : Tx K mg) : ∀ n : Nat, FnZH P w K mg base (2 + n) T.a__law_same T.d__law_same ["actual", "due"] (F_law_same n)
  | 0 => fn_badH
  | n + 1 => by
    have GH__law_is_int := okH__law_is_int (P := P) (w := w) (base := base) T
    have GH__law_same := okH__law_same T n
    exact fn_okH T.u__law_same (k := 2 + n) sc_law_same (by decide) fun cdv A outer s H E p hr hot tk =>
      ss_cons (s_if (t_B (e_isi .tup rfl (by rfl) T.b_isinstance (by rfl) T.b_tuple (ev 1))) (ss_cons (s_if (PW.pt (w_or (t_not (t_B (e_isi .tup rfl (by rfl) T.b_isinstance (by rfl) T.b_tuple (ev 0)))) (w_or1 (t_cmp (oNe (RoomH.units hr)) sNe (e_cb call_len sLen (by rfl) T.b_len (by decide +kernel) (a_cons (ev 0) (a_nil))) (e_cb call_len sLen (by rfl) T.b_len (by decide +kernel) (a_cons (ev 1) (a_nil))))))) (ss_one (s_ret (ec_bl))) (ss_nil)) (ss_cons (s_forH hot (i_rng1H (by rfl) T.b_range (a_cons (e_cb call_len sLen (by rfl) T.b_len (by decide +kernel) (a_cons (ev 1) (a_nil))) (a_nil))) (g_n 2 sc_law_same.nd) (ss_one (s_if (t_not (t_B (e_callH GH__law_same (hr.mono (by omega)) hot T.g__law_same T.k__law_same (bd__law_same T) tk (a_cons (e_ix ix_seq sIx (ev 0) (ev 2)) (a_cons (e_ix ix_seq sIx (ev 1) (ev 2)) (a_nil)))))) (ss_one (s_ret (ec_bl))) (ss_nil))) (passes_of rfl)) (ss_one (s_ret (ec_bl))))) (ss_nil)) (ss_cons (s_if (t_B (e_isi .str rfl (by rfl) T.b_isinstance (by rfl) T.b_str (ev 1))) (ss_one (s_ret (e_and (e_isi .str rfl (by rfl) T.b_isinstance (by rfl) T.b_str (ev 0)) (e_one (e_cmp (oEq (RoomH.units hr)) sEq (ev 0) (ev 1)))))) (ss_nil)) (ss_cons (s_if (t_isN (ev 1)) (ss_one (s_ret (e_isN (ev 0)))) (ss_nil)) (ss_one (s_ret (e_and (e_callH GH__law_is_int (hr.mono (by omega)) hot T.g__law_is_int T.k__law_is_int (bd__law_is_int T) tk (a_cons (ev 0) (a_nil))) (e_one (e_cmp (oEq (RoomH.units hr)) sEq (ev 0) (ev 1))))))))
theorem ok__law_placed (T : Tx K mg) : FnZ P w K mg base 1 T.a__law_placed T.d__law_placed ["groups", "top", "bottom", "clock"] F_law_placed := by
  exact fn_ok T.u__law_placed (k := 0) sc_law_placed (by decide) fun cdv A outer s H E hr tk =>
    ss_cons (s_set (i := 4) sc_law_placed.nd (ec_int)) (ss_cons (s_for rfl (i_any (ev 0)) (g_n 5 sc_law_placed.nd) (ss_one (s_if (t_cmp op_lt sLt (e_op oMul sMul (e_ix ix_seq sIx (ev 5) (ec_int)) (ev 2)) (e_op oMul sMul (ev 1) (e_ix ix_seq sIx (ev 5) (ec_int)))) (ss_one (s_set (i := 4) sc_law_placed.nd (e_op oPlus sPlus (ev 4) (ec_int)))) (ss_nil))) (passes_of rfl)) (ss_cons (s_if (t_cmp op_lt sLt (ev 4) (e_cb call_len sLen (by rfl) T.b_len (by decide +kernel) (a_cons (ev 0) (a_nil)))) (ss_cons (s_set (i := 6) sc_law_placed.nd (e_ix ix_seq sIx (ev 0) (ev 4))) (ss_one (s_if (t_cmp (oEq hr.units) sEq (e_op oMul sMul (e_ix ix_seq sIx (ev 6) (ec_int)) (ev 2)) (e_op oMul sMul (ev 1) (e_ix ix_seq sIx (ev 6) (ec_int)))) (ss_cons (s_expr (e_bm .list PySem.F.plainAttrs_list PySem.F.slot_list_append PySem.F.type_list_append mt_append sApp (e_ix ix_seq sIx (ev 6) (ec_int)) (a_cons (ev 3) (a_nil)))) (ss_one (s_retN))) (ss_nil)))) (ss_nil)) (ss_one (s_expr (e_bm .list PySem.F.plainAttrs_list PySem.F.slot_list_insert PySem.F.type_list_insert mt_insert sIns (ev 0) (a_cons (ev 4) (a_cons (e_lst false (a_cons (ev 1) (a_cons (ev 2) (a_cons (e_lst true (a_cons (ev 3) (a_nil))) (a_nil))))) (a_nil))))))))
theorem ok__law_kind (T : Tx K mg) : FnZ P w K mg base 2 T.a__law_kind T.d__law_kind ["readings", "ceilings"] F_law_kind := by
  have G__law_placed := ok__law_placed (P := P) (w := w) (base := base) T
  exact fn_ok T.u__law_kind (k := 1) sc_law_kind (by decide) fun cdv A outer s H E hr tk =>
    ss_cons (s_set (i := 2) sc_law_kind.nd (e_lst true (a_nil))) (ss_cons (s_set (i := 3) sc_law_kind.nd (e_lst true (a_nil))) (ss_cons (s_set (i := 4) sc_law_kind.nd (e_lst true (a_nil))) (ss_cons (s_for rfl (i_rng1 (by rfl) T.b_range (a_cons (e_cb call_len sLen (by rfl) T.b_len (by decide +kernel) (a_cons (ev 1) (a_nil))) (a_nil))) (g_n 5 sc_law_kind.nd) (ss_cons (s_set (i := 6) sc_law_kind.nd (e_ix ix_seq sIx (e_ix ix_seq sIx (ev 0) (ev 5)) (ec_int))) (ss_cons (s_set (i := 7) sc_law_kind.nd (e_ix ix_seq sIx (e_ix ix_seq sIx (ev 0) (ev 5)) (ec_int))) (ss_cons (s_set (i := 8) sc_law_kind.nd (e_op op_fdivW sDiv (ev 6) (ev 7))) (ss_one (s_if (t_cmp op_gt sGt (ev 6) (e_op oMul sMul (e_ix ix_seq sIx (ev 1) (ev 5)) (ev 7))) (ss_one (s_expr (e_bm .list PySem.F.plainAttrs_list PySem.F.slot_list_append PySem.F.type_list_append mt_append sApp (ev 2) (a_cons (e_op oPlus sPlus (e_ix ix_seq sIx (ev 1) (ev 5)) (ec_int)) (a_nil))))) (ss_cons (s_expr (e_bm .list PySem.F.plainAttrs_list PySem.F.slot_list_append PySem.F.type_list_append mt_append sApp (ev 2) (a_cons (ev 8) (a_nil)))) (ss_one (s_if (t_cmp (oEq hr.units) sEq (e_op oMul sMul (ev 8) (ev 7)) (ev 6)) (ss_one (s_expr (e_bm .list PySem.F.plainAttrs_list PySem.F.slot_list_append PySem.F.type_list_append mt_append sApp (ev 3) (a_cons (e_op oPlus sPlus (ev 5) (ec_int)) (a_nil))))) (ss_one (s_expr (e_call G__law_placed (hr.mono (by omega)) T.g__law_placed T.k__law_placed (bd__law_placed T) .nil .nil tk (a_cons (ev 4) (a_cons (e_op op_sub sSub (ev 6) (e_op oMul sMul (ev 8) (ev 7))) (a_cons (ev 7) (a_cons (e_op oPlus sPlus (ev 5) (ec_int)) (a_nil)))))))))))))))) (passes_of rfl)) (ss_one (s_ret (e_tup (a_cons (e_ct call_tuple_of sTuple (by rfl) T.b_tuple (by decide +kernel) (a_cons (ev 2) (a_nil))) (a_cons (e_ct call_tuple_of sTuple (by rfl) T.b_tuple (by decide +kernel) (a_cons (e_op oPlus sPlus (e_lst false (a_cons (e_ct call_tuple_of sTuple (by rfl) T.b_tuple (by decide +kernel) (a_cons (ev 3) (a_nil))) (a_nil))) (e_lc (own := [("group", 9)]) false rfl sc_law_kind.nd (i_any (ev 4)) (blkOk_by (N := N_law_kind) (sc := defScope s_law_kind) (by decide +kernel)) (fun _ _ _ _ _ => by exact g_n 9 sc_law_kind.nd) (fun _ _ _ _ _ => by exact ts_nil) (fun _ _ _ _ _ => by exact e_ct call_tuple_of sTuple (by rfl) T.b_tuple (by decide +kernel) (a_cons (e_ix ix_seq sIx (ev 9) (ec_int)) (a_nil))) (by decide))) (a_nil))) (a_nil)))))))))
theorem ok__law_ceilings (T : Tx K mg) : FnZ P w K mg base 2 T.a__law_ceilings T.d__law_ceilings ["box", "most"] F_law_ceilings := by
  have G__law_draw := ok__law_draw (P := P) (w := w) (base := base) T
  exact fn_ok T.u__law_ceilings (k := 1) sc_law_ceilings (by decide) fun cdv A outer s H E hr tk =>
    ss_cons (s_set (i := 2) sc_law_ceilings.nd (e_op oPlus sPlus (ec_int) (e_call G__law_draw (hr.mono (by omega)) T.g__law_draw T.k__law_draw (bd__law_draw T) .nil .nil tk (a_cons (ev 0) (a_cons (ec_int) (a_nil)))))) (ss_cons (s_setLc (own := [("k", 4)]) true (i := 3) rfl sc_law_ceilings.nd rfl rfl (sw_true rfl rfl rfl (by decide +kernel)) (i_rng1 (by rfl) T.b_range (a_cons (ev 2) (a_nil))) (blkOk_by (N := N_law_ceilings) (sc := defScope s_law_ceilings) (by decide +kernel)) (fun _ _ _ _ _ => by exact g_n 4 sc_law_ceilings.nd) (fun _ _ _ _ _ => by exact ts_nil) (fun _ _ _ _ _ => by exact e_call G__law_draw (hr.mono (by omega)) T.g__law_draw T.k__law_draw (bd__law_draw T) .nil .nil takes0N (a_cons (ev 0) (a_cons (ec_int) (a_nil)))) (by decide)) (ss_cons (s_if (t_cmp (oEq hr.units) sEq (e_call G__law_draw (hr.mono (by omega)) T.g__law_draw T.k__law_draw (bd__law_draw T) .nil .nil tk (a_cons (ev 0) (a_cons (ec_int) (a_nil)))) (ec_int)) (ss_one (s_put (pg_sub (ev 3) (e_call G__law_draw (hr.mono (by omega)) T.g__law_draw T.k__law_draw (bd__law_draw T) .nil .nil tk (a_cons (ev 0) (a_cons (ev 2) (a_nil)))) set_list) (e_call G__law_draw (hr.mono (by omega)) T.g__law_draw T.k__law_draw (bd__law_draw T) .nil .nil tk (a_cons (ev 0) (a_cons (e_op oPlus sPlus (ev 1) (ec_int)) (a_nil)))) rfl)) (ss_nil)) (ss_one (s_ret (e_ct call_tuple_of sTuple (by rfl) T.b_tuple (by decide +kernel) (a_cons (ev 3) (a_nil)))))))
theorem ok__law_span (T : Tx K mg) : FnZ P w K mg base 2 T.a__law_span T.d__law_span ["box", "ceiling", "amount", "bottom"] F_law_span := by
  have G__law_draw := ok__law_draw (P := P) (w := w) (base := base) T
  exact fn_ok T.u__law_span (k := 1) sc_law_span (by decide) fun cdv A outer s H E hr tk =>
    ss_cons (s_set (i := 4) sc_law_span.nd (e_op oPlus sPlus (ev 1) (ec_int))) (ss_cons (s_if (t_cmp (oEq hr.units) sEq (e_call G__law_draw (hr.mono (by omega)) T.g__law_draw T.k__law_draw (bd__law_draw T) .nil .nil tk (a_cons (ev 0) (a_cons (ec_int) (a_nil)))) (ec_int)) (ss_one (s_set (i := 4) sc_law_span.nd (e_op oPlus sPlus (ev 1) (ec_int)))) (ss_nil)) (ss_cons (s_set (i := 5) sc_law_span.nd (e_call G__law_draw (hr.mono (by omega)) T.g__law_draw T.k__law_draw (bd__law_draw T) .nil .nil tk (a_cons (ev 0) (a_cons (ev 4) (a_nil))))) (ss_cons (s_if (t_cmp (oEq hr.units) sEq (e_call G__law_draw (hr.mono (by omega)) T.g__law_draw T.k__law_draw (bd__law_draw T) .nil .nil tk (a_cons (ev 0) (a_cons (ec_int) (a_nil)))) (ec_int)) (ss_one (s_set (i := 5) sc_law_span.nd (e_cb (call_min2 rfl) sMin2 (by rfl) T.b_min (by decide +kernel) (a_cons (e_op op_fdivW sDiv (ev 2) (ev 3)) (a_cons (e_op op_sub sSub (ev 4) (ec_int)) (a_nil)))))) (ss_nil)) (ss_cons (s_set (i := 6) sc_law_span.nd (e_call G__law_draw (hr.mono (by omega)) T.g__law_draw T.k__law_draw (bd__law_draw T) .nil .nil tk (a_cons (ev 0) (a_cons (ec_int) (a_nil))))) (ss_cons (s_if (t_cmp (oEq hr.units) sEq (e_call G__law_draw (hr.mono (by omega)) T.g__law_draw T.k__law_draw (bd__law_draw T) .nil .nil tk (a_cons (ev 0) (a_cons (ec_int) (a_nil)))) (ec_int)) (ss_one (s_ret (e_tup (a_cons (e_tup (a_cons (ev 5) (a_cons (ev 6) (a_nil)))) (a_cons (ec_non) (a_nil)))))) (ss_nil)) (ss_cons (s_set (i := 7) sc_law_span.nd (e_op oPlus sPlus (ev 5) (e_call G__law_draw (hr.mono (by omega)) T.g__law_draw T.k__law_draw (bd__law_draw T) .nil .nil tk (a_cons (ev 0) (a_cons (e_op op_sub sSub (ev 4) (ev 5)) (a_nil)))))) (ss_cons (s_if (PW.pt (w_and (t_cmp op_gt sGt (ev 7) (ev 5)) (w_and1 (t_cmp (oEq hr.units) sEq (e_call G__law_draw (hr.mono (by omega)) T.g__law_draw T.k__law_draw (bd__law_draw T) .nil .nil tk (a_cons (ev 0) (a_cons (ec_int) (a_nil)))) (ec_int))))) (ss_one (s_set (i := 7) sc_law_span.nd (e_op oPlus sPlus (ev 5) (ec_int)))) (ss_nil)) (ss_cons (s_if (t_cmp (oEq hr.units) sEq (ev 7) (ev 5)) (ss_one (s_ret (e_tup (a_cons (e_tup (a_cons (ev 5) (a_cons (ec_int) (a_nil)))) (a_cons (e_tup (a_cons (ev 5) (a_cons (ec_int) (a_nil)))) (a_nil)))))) (ss_nil)) (ss_one (s_ret (e_tup (a_cons (e_tup (a_cons (ev 5) (a_cons (ev 6) (a_nil)))) (a_cons (e_tup (a_cons (ev 7) (a_cons (e_call G__law_draw (hr.mono (by omega)) T.g__law_draw T.k__law_draw (bd__law_draw T) .nil .nil tk (a_cons (ev 0) (a_cons (ec_int) (a_nil)))) (a_nil)))) (a_nil))))))))))))))
theorem ok__law_in_span (T : Tx K mg) : FnZ P w K mg base 1 T.a__law_in_span T.d__law_in_span ["amount", "bottom", "span"] F_law_in_span := by
  exact fn_ok T.u__law_in_span (k := 0) sc_law_in_span (by decide) fun cdv A outer s H E hr tk =>
    ss_cons (s_set (i := 3) sc_law_in_span.nd (e_op oMul sMul (e_ix ix_seq sIx (e_ix ix_seq sIx (ev 2) (ec_int)) (ec_int)) (ev 1))) (ss_cons (s_if (PW.pt (w_or (t_cmp op_lt sLt (ev 0) (ev 3)) (w_or1 (PW.pt (w_and (t_cmp (oEq hr.units) sEq (ev 0) (ev 3)) (w_and1 (t_cmp (oEq hr.units) sEq (e_ix ix_seq sIx (e_ix ix_seq sIx (ev 2) (ec_int)) (ec_int)) (ec_int)))))))) (ss_one (s_ret (ec_bl))) (ss_nil)) (ss_cons (s_if (t_isN (e_ix ix_seq sIx (ev 2) (ec_int))) (ss_one (s_ret (ec_bl))) (ss_nil)) (ss_cons (s_set (i := 4) sc_law_in_span.nd (e_op oMul sMul (e_ix ix_seq sIx (e_ix ix_seq sIx (ev 2) (ec_int)) (ec_int)) (ev 1))) (ss_one (s_ret (e_or (e_cmp op_lt sLt (ev 0) (ev 4)) (e_one (e_and (e_cmp (oEq hr.units) sEq (ev 0) (ev 4)) (e_one (e_cmp (oEq hr.units) sEq (e_ix ix_seq sIx (e_ix ix_seq sIx (ev 2) (ec_int)) (ec_int)) (ec_int)))))))))))
theorem ok__law_too_great (T : Tx K mg) : FnZ P w K mg base 1 T.a__law_too_great T.d__law_too_great ["ceiling", "span"] F_law_too_great := by
  exact fn_ok T.u__law_too_great (k := 0) sc_law_too_great (by decide) fun cdv A outer s H E hr tk =>
    ss_cons (s_if (t_cmp op_gt sGt (e_ix ix_seq sIx (e_ix ix_seq sIx (ev 1) (ec_int)) (ec_int)) (ev 0)) (ss_one (s_ret (e_ix ix_seq sIx (e_ix ix_seq sIx (ev 1) (ec_int)) (ec_int)))) (ss_nil)) (ss_cons (s_if (PW.pt (w_and (t_notN (e_ix ix_seq sIx (ev 1) (ec_int))) (w_and1 (t_cmp op_gt sGt (e_ix ix_seq sIx (e_ix ix_seq sIx (ev 1) (ec_int)) (ec_int)) (ev 0))))) (ss_one (s_ret (e_ix ix_seq sIx (e_ix ix_seq sIx (ev 1) (ec_int)) (ec_int)))) (ss_nil)) (ss_one (s_ret (ec_non))))
theorem ok__law_refused (T : Tx K mg) : FnZ P w K mg base 9 T.a__law_refused T.d__law_refused ["kind", "ceilings", "clock", "span", "limit"] F_law_refused := by
  have G__law_same := ok__law_same (P := P) (w := w) (base := base) T 6
  have G_kind_in := ok_kind_in (P := P) (w := w) (base := base) T
  have GH__law_same := okH__law_same (P := P) (w := w) (base := base) T 6
  exact fn_ok T.u__law_refused (k := 8) sc_law_refused (by decide) fun cdv A outer s H E hr tk =>
    ss_cons (s_try (i := 5) sc_law_refused.nd T.e_BeyondCeiling T.x_BeyondCeiling tk (fun W' pn xe tk hp => ss_one (s_expr (e_call G_kind_in (hr.mono (by omega)) T.g_kind_in T.k_kind_in (bd_kind_in T) .nil .nil tk (a_cons (ev 0) (a_cons (ev 1) (a_cons (ev 2) (a_cons (ev 3) (a_nil)))))))) (fun a oe dd pn hz hf hot => ss_cons (s_if (PW.pt (w_or (t_not (t_B (e_isX T.e_BeyondCeiling hz hf T.b_isinstance T.gl_BellError T.k_BeyondCeiling_BellError (ev 5)))) (w_or1 (t_not (t_B (e_isXB (T' := "ValueError") T.e_BeyondCeiling hz hf T.b_isinstance T.b_ValueError (by decide +kernel) T.k_BeyondCeiling_ValueError (ev 5))))))) (ss_one (s_ret (ec_bl))) (ss_nil)) (ss_cons (s_if (t_B (e_isX T.e_BeyondCeiling hz hf T.b_isinstance T.e_InvalidKind.gl T.k_BeyondCeiling_InvalidKind (ev 5))) (ss_one (s_ret (ec_bl))) (ss_nil)) (ss_one (s_ret (e_callH GH__law_same (L2H.RoomH.mono (roomS hr) (by omega)) hot T.g__law_same T.k__law_same (bd__law_same T) takes0N (a_cons (e_tup (a_cons (e_xf T.e_BeyondCeiling (by simp) hz hf (ev 5)) (a_cons (e_xf T.e_BeyondCeiling (by simp) hz hf (ev 5)) (a_nil)))) (a_cons (e_tup (a_cons (ev 2) (a_cons (ev 4) (a_nil)))) (a_nil))))))))) (ss_one (s_ret (ec_bl)))
theorem ok__law_tested (T : Tx K mg) : FnZ P w K mg base 10 T.a__law_tested T.d__law_tested ["box", "kind", "amounts", "bottom", "ceilings"] F_law_tested := by
  have G__law_in_span := ok__law_in_span (P := P) (w := w) (base := base) T
  have G__law_refused := ok__law_refused (P := P) (w := w) (base := base) T
  have G__law_span := ok__law_span (P := P) (w := w) (base := base) T
  have G__law_too_great := ok__law_too_great (P := P) (w := w) (base := base) T
  have G_kind_in := ok_kind_in (P := P) (w := w) (base := base) T
  exact fn_ok T.u__law_tested (k := 9) sc_law_tested (by decide) fun cdv A outer s H E hr tk =>
    ss_cons (s_for rfl (i_rng1 (by rfl) T.b_range (a_cons (e_cb call_len sLen (by rfl) T.b_len (by decide +kernel) (a_cons (ev 4) (a_nil))) (a_nil))) (g_n 5 sc_law_tested.nd) (ss_cons (s_set (i := 6) sc_law_tested.nd (e_call G__law_span (hr.mono (by omega)) T.g__law_span T.k__law_span (bd__law_span T) .nil .nil tk (a_cons (ev 0) (a_cons (e_ix ix_seq sIx (ev 4) (ev 5)) (a_cons (e_ix ix_seq sIx (ev 2) (ev 5)) (a_cons (ev 3) (a_nil))))))) (ss_cons (s_set (i := 7) sc_law_tested.nd (e_call G__law_too_great (hr.mono (by omega)) T.g__law_too_great T.k__law_too_great (bd__law_too_great T) .nil .nil tk (a_cons (e_ix ix_seq sIx (ev 4) (ev 5)) (a_cons (ev 6) (a_nil))))) (ss_one (s_if (t_notN (ev 7)) (ss_one (s_if (t_not (t_B (e_call G__law_refused (hr.mono (by omega)) T.g__law_refused T.k__law_refused (bd__law_refused T) .nil .nil tk (a_cons (ev 1) (a_cons (ev 4) (a_cons (e_op oPlus sPlus (ev 5) (ec_int)) (a_cons (ev 6) (a_cons (ev 7) (a_nil))))))))) (ss_one (s_ret (ec_bl))) (ss_nil))) (ss_one (s_if (t_B (e_call G__law_in_span (hr.mono (by omega)) T.g__law_in_span T.k__law_in_span (bd__law_in_span T) .nil .nil tk (a_cons (e_ix ix_seq sIx (ev 2) (ev 5)) (a_cons (ev 3) (a_cons (ev 6) (a_nil)))))) (ss_one (s_if (t_notB (e_call G_kind_in (hr.mono (by omega)) T.g_kind_in T.k_kind_in (bd_kind_in T) .nil .nil tk (a_cons (ev 1) (a_cons (ev 4) (a_cons (e_op oPlus sPlus (ev 5) (ec_int)) (a_cons (ev 6) (a_nil))))))) (ss_one (s_ret (ec_bl))) (ss_nil))) (ss_one (s_if (t_notB (e_call G_kind_in (hr.mono (by omega)) T.g_kind_in T.k_kind_in (bd_kind_in T) .nil .nil tk (a_cons (ev 1) (a_cons (ev 4) (a_cons (e_op oPlus sPlus (ev 5) (ec_int)) (a_cons (ev 6) (a_nil))))))) (ss_one (s_ret (ec_bl))) (ss_nil))))))))) (passes_of rfl)) (ss_one (s_ret (ec_bl)))
theorem ok__law_chosen (T : Tx K mg) : FnZ P w K mg base 2 T.a__law_chosen T.d__law_chosen ["box", "many"] F_law_chosen := by
  have G__law_draw := ok__law_draw (P := P) (w := w) (base := base) T
  exact fn_ok T.u__law_chosen (k := 1) sc_law_chosen (by decide) fun cdv A outer s H E hr tk =>
    ss_cons (s_set (i := 2) sc_law_chosen.nd (e_lst true (a_nil))) (ss_cons (s_for rfl (i_rng1 (by rfl) T.b_range (a_cons (ev 1) (a_nil))) (g_n 3 sc_law_chosen.nd) (ss_one (s_if (t_cmp (oEq hr.units) sEq (e_call G__law_draw (hr.mono (by omega)) T.g__law_draw T.k__law_draw (bd__law_draw T) .nil .nil tk (a_cons (ev 0) (a_cons (ec_int) (a_nil)))) (ec_int)) (ss_one (s_expr (e_bm .list PySem.F.plainAttrs_list PySem.F.slot_list_insert PySem.F.type_list_insert mt_insert sIns (ev 2) (a_cons (e_call G__law_draw (hr.mono (by omega)) T.g__law_draw T.k__law_draw (bd__law_draw T) .nil .nil tk (a_cons (ev 0) (a_cons (e_op oPlus sPlus (e_cb call_len sLen (by rfl) T.b_len (by decide +kernel) (a_cons (ev 2) (a_nil))) (ec_int)) (a_nil)))) (a_cons (e_op oPlus sPlus (ev 3) (ec_int)) (a_nil)))))) (ss_nil))) (passes_of rfl)) (ss_one (s_ret (e_ct call_tuple_of sTuple (by rfl) T.b_tuple (by decide +kernel) (a_cons (ev 2) (a_nil))))))
theorem ok_law (T : Tx K mg) : FnZ P w K mg base 11 T.a_law T.d_law ["script"] Flaw := by
  have G__law_box := ok__law_box (P := P) (w := w) (base := base) T
  have G__law_ceilings := ok__law_ceilings (P := P) (w := w) (base := base) T
  have G__law_chosen := ok__law_chosen (P := P) (w := w) (base := base) T
  have G__law_draw := ok__law_draw (P := P) (w := w) (base := base) T
  have G__law_kind := ok__law_kind (P := P) (w := w) (base := base) T
  have G__law_same := ok__law_same (P := P) (w := w) (base := base) T 6
  have G__law_tested := ok__law_tested (P := P) (w := w) (base := base) T
  have G_restart_kind := ok_restart_kind (P := P) (w := w) (base := base) T
  exact fn_ok T.u_law (k := 10) sclaw (by decide) fun cdv A outer s H E hr tk =>
    ss_cons (s_set (i := 1) sclaw.nd (e_call G__law_box (hr.mono (by omega)) T.g__law_box T.k__law_box (bd__law_box T) .nil .nil tk (a_cons (ev 0) (a_nil)))) (ss_cons (s_set (i := 2) sclaw.nd (e_call G__law_ceilings (hr.mono (by omega)) T.g__law_ceilings T.k__law_ceilings (bd__law_ceilings T) .nil .nil tk (a_cons (ev 1) (a_cons (ec_int) (a_nil))))) (ss_cons (s_set (i := 3) sclaw.nd (e_op oPlus sPlus (ec_int) (e_call G__law_draw (hr.mono (by omega)) T.g__law_draw T.k__law_draw (bd__law_draw T) .nil .nil tk (a_cons (ev 1) (a_cons (ec_int) (a_nil)))))) (ss_cons (s_setLc (own := [("ceiling", 5)]) true (i := 4) rfl sclaw.nd rfl rfl (sw_true rfl rfl rfl (by decide +kernel)) (i_any (ev 2)) (blkOk_by (N := Nlaw) (sc := defScope slaw) (by decide +kernel)) (fun _ _ _ _ _ => by exact g_n 5 sclaw.nd) (fun _ _ _ _ _ => by exact ts_nil) (fun _ _ _ _ _ => by exact e_call G__law_draw (hr.mono (by omega)) T.g__law_draw T.k__law_draw (bd__law_draw T) .nil .nil takes0N (a_cons (ev 1) (a_cons (e_op oMul sMul (e_op oPlus sPlus (ev 5) (ec_int)) (ev 3)) (a_nil)))) (by decide)) (ss_cons (s_for rfl (i_rng1 (by rfl) T.b_range (a_cons (e_op oPlus sPlus (ec_int) (e_call G__law_draw (hr.mono (by omega)) T.g__law_draw T.k__law_draw (bd__law_draw T) .nil .nil tk (a_cons (ev 1) (a_cons (ec_int) (a_nil))))) (a_nil))) (g_n 6 sclaw.nd) (ss_cons (s_set (i := 7) sclaw.nd (e_call G__law_kind (hr.mono (by omega)) T.g__law_kind T.k__law_kind (bd__law_kind T) .nil .nil tk (a_cons (e_lc (own := [("amount", 8)]) false rfl sclaw.nd (i_any (ev 4)) (blkOk_by (N := Nlaw) (sc := defScope slaw) (by decide +kernel)) (fun _ _ _ _ _ => by exact g_n 8 sclaw.nd) (fun _ _ _ _ _ => by exact ts_nil) (fun _ _ _ _ _ => by exact e_tup (a_cons (ev 8) (a_cons (ev 3) (a_nil)))) (by decide)) (a_cons (ev 2) (a_nil))))) (ss_cons (s_if (t_not (t_B (e_call G__law_tested (hr.mono (by omega)) T.g__law_tested T.k__law_tested (bd__law_tested T) .nil .nil tk (a_cons (ev 1) (a_cons (ev 7) (a_cons (ev 4) (a_cons (ev 3) (a_cons (ev 2) (a_nil))))))))) (ss_one (s_ret (ec_bl))) (ss_nil)) (ss_cons (s_set (i := 9) sclaw.nd (e_call G__law_chosen (hr.mono (by omega)) T.g__law_chosen T.k__law_chosen (bd__law_chosen T) .nil .nil tk (a_cons (ev 1) (a_cons (e_cb call_len sLen (by rfl) T.b_len (by decide +kernel) (a_cons (ev 2) (a_nil))) (a_nil))))) (ss_cons (s_for rfl (i_any (ev 9)) (g_n 10 sclaw.nd) (ss_one (s_put (pg_sub (ev 4) (e_op op_sub sSub (ev 10) (ec_int)) set_list) (ec_int) rfl)) (passes_of rfl)) (ss_cons (s_set (i := 11) sclaw.nd (e_call G__law_kind (hr.mono (by omega)) T.g__law_kind T.k__law_kind (bd__law_kind T) .nil .nil tk (a_cons (e_lc (own := [("amount", 8)]) false rfl sclaw.nd (i_any (ev 4)) (blkOk_by (N := Nlaw) (sc := defScope slaw) (by decide +kernel)) (fun _ _ _ _ _ => by exact g_n 8 sclaw.nd) (fun _ _ _ _ _ => by exact ts_nil) (fun _ _ _ _ _ => by exact e_tup (a_cons (ev 8) (a_cons (ev 3) (a_nil)))) (by decide)) (a_cons (ev 2) (a_nil))))) (ss_cons (s_if (t_not (t_B (e_call G__law_same (hr.mono (by omega)) T.g__law_same T.k__law_same (bd__law_same T) .nil .nil tk (a_cons (e_call G_restart_kind (hr.mono (by omega)) T.g_restart_kind T.k_restart_kind (bd_restart_kind T) .nil .nil tk (a_cons (ev 7) (a_cons (ev 9) (a_nil)))) (a_cons (ev 11) (a_nil)))))) (ss_one (s_ret (ec_bl))) (ss_nil)) (ss_cons (s_if (t_not (t_B (e_call G__law_same (hr.mono (by omega)) T.g__law_same T.k__law_same (bd__law_same T) .nil .nil tk (a_cons (e_call G_restart_kind (hr.mono (by omega)) T.g_restart_kind T.k_restart_kind (bd_restart_kind T) .nil .nil tk (a_cons (ev 7) (a_cons (e_op oPlus sPlus (ev 9) (e_sl false (ev 9) (o_none) (o_some (ec_int)))) (a_nil)))) (a_cons (ev 11) (a_nil)))))) (ss_one (s_ret (ec_bl))) (ss_nil)) (ss_cons (s_if (t_not (t_B (e_call G__law_tested (hr.mono (by omega)) T.g__law_tested T.k__law_tested (bd__law_tested T) .nil .nil tk (a_cons (ev 1) (a_cons (ev 11) (a_cons (ev 4) (a_cons (ev 3) (a_cons (ev 2) (a_nil))))))))) (ss_one (s_ret (ec_bl))) (ss_nil)) (ss_cons (s_set (i := 12) sclaw.nd (e_call G__law_draw (hr.mono (by omega)) T.g__law_draw T.k__law_draw (bd__law_draw T) .nil .nil tk (a_cons (ev 1) (a_cons (e_op oPlus sPlus (e_op oMul sMul (ec_int) (ev 3)) (ec_int)) (a_nil))))) (ss_one (s_setLc (own := [("amount", 8)]) true (i := 4) rfl sclaw.nd rfl rfl (sw_true rfl rfl rfl (by decide +kernel)) (i_any (ev 4)) (blkOk_by (N := Nlaw) (sc := defScope slaw) (by decide +kernel)) (fun _ _ _ _ _ => by exact g_n 8 sclaw.nd) (fun _ _ _ _ _ => by exact ts_nil) (fun _ _ _ _ _ => by exact e_op oPlus sPlus (ev 8) (ev 12)) (by decide)))))))))))) (passes_of rfl)) (ss_one (s_ret (ec_bl)))))))
end
end K21
end

section
set_option Elab.async false
set_option linter.all false
set_option maxRecDepth 100000
set_option maxHeartbeats 4000000
namespace K21
open PySem PySem.Spec PyProof.Rows L2 Z
theorem all_mk {P : Program} {w : World} {K : PySem.W.Frag} {h : Heap} {mg : Str → Option Value} {fa : Addr} (X : K.In h) (G : h.Ns mainGlobals mg) (hfa : mg "law" = some (.ref fa)) (hF : Holds Flaw)
    {C_BellError : Addr}
    {C_InvalidKind : Addr}
    {nm_InvalidKind qn_InvalidKind : Str} {N_InvalidKind : Addr} {bs_InvalidKind bm_InvalidKind : List Value} {sn_InvalidKind : List Str} {su_InvalidKind : List Value} {ab_InvalidKind : Bool} {co_InvalidKind : Option Bool} {dd_InvalidKind : Option Addr} {m0_InvalidKind m1_InvalidKind m2_InvalidKind m3_InvalidKind m5_InvalidKind : Option Value}
    {I_InvalidKind : Addr} {oc_InvalidKind : Value} {od_InvalidKind an_InvalidKind : Option Addr} {sl_InvalidKind : Array (Option Value)} {kV_InvalidKind dc_InvalidKind pm_InvalidKind cd_InvalidKind ct_InvalidKind : Value}
    {C_BeyondCeiling : Addr}
    {nm_BeyondCeiling qn_BeyondCeiling : Str} {N_BeyondCeiling : Addr} {bs_BeyondCeiling bm_BeyondCeiling : List Value} {sn_BeyondCeiling : List Str} {su_BeyondCeiling : List Value} {ab_BeyondCeiling : Bool} {co_BeyondCeiling : Option Bool} {dd_BeyondCeiling : Option Addr} {m0_BeyondCeiling m1_BeyondCeiling m2_BeyondCeiling m3_BeyondCeiling m5_BeyondCeiling : Option Value}
    {I_BeyondCeiling : Addr} {oc_BeyondCeiling : Value} {od_BeyondCeiling an_BeyondCeiling : Option Addr} {sl_BeyondCeiling : Array (Option Value)} {kV_BeyondCeiling dc_BeyondCeiling pm_BeyondCeiling cd_BeyondCeiling ct_BeyondCeiling : Value}
    {f_place_of : Addr} {oc_place_of : Value} {od_place_of an_place_of : Option Addr} {sl_place_of : Array (Option Value)} {kV_place_of dc_place_of pm_place_of cd_place_of ct_place_of : Value}
    {f_place_in : Addr} {oc_place_in : Value} {od_place_in an_place_in : Option Addr} {sl_place_in : Array (Option Value)} {kV_place_in dc_place_in pm_place_in cd_place_in ct_place_in : Value}
    {f_kind_in : Addr} {oc_kind_in : Value} {od_kind_in an_kind_in : Option Addr} {sl_kind_in : Array (Option Value)} {kV_kind_in dc_kind_in pm_kind_in cd_kind_in ct_kind_in : Value}
    {f_restart_kind : Addr} {oc_restart_kind : Value} {od_restart_kind an_restart_kind : Option Addr} {sl_restart_kind : Array (Option Value)} {kV_restart_kind dc_restart_kind pm_restart_kind cd_restart_kind ct_restart_kind : Value}
    {f__law_box : Addr} {oc__law_box : Value} {od__law_box an__law_box : Option Addr} {sl__law_box : Array (Option Value)} {kV__law_box dc__law_box pm__law_box cd__law_box ct__law_box : Value}
    {f__law_draw : Addr} {oc__law_draw : Value} {od__law_draw an__law_draw : Option Addr} {sl__law_draw : Array (Option Value)} {kV__law_draw dc__law_draw pm__law_draw cd__law_draw ct__law_draw : Value}
    {f__law_is_int : Addr} {oc__law_is_int : Value} {od__law_is_int an__law_is_int : Option Addr} {sl__law_is_int : Array (Option Value)} {kV__law_is_int dc__law_is_int pm__law_is_int cd__law_is_int ct__law_is_int : Value}
    {f__law_same : Addr} {oc__law_same : Value} {od__law_same an__law_same : Option Addr} {sl__law_same : Array (Option Value)} {kV__law_same dc__law_same pm__law_same cd__law_same ct__law_same : Value}
    {f__law_placed : Addr} {oc__law_placed : Value} {od__law_placed an__law_placed : Option Addr} {sl__law_placed : Array (Option Value)} {kV__law_placed dc__law_placed pm__law_placed cd__law_placed ct__law_placed : Value}
    {f__law_kind : Addr} {oc__law_kind : Value} {od__law_kind an__law_kind : Option Addr} {sl__law_kind : Array (Option Value)} {kV__law_kind dc__law_kind pm__law_kind cd__law_kind ct__law_kind : Value}
    {f__law_ceilings : Addr} {oc__law_ceilings : Value} {od__law_ceilings an__law_ceilings : Option Addr} {sl__law_ceilings : Array (Option Value)} {kV__law_ceilings dc__law_ceilings pm__law_ceilings cd__law_ceilings ct__law_ceilings : Value}
    {f__law_span : Addr} {oc__law_span : Value} {od__law_span an__law_span : Option Addr} {sl__law_span : Array (Option Value)} {kV__law_span dc__law_span pm__law_span cd__law_span ct__law_span : Value}
    {f__law_in_span : Addr} {oc__law_in_span : Value} {od__law_in_span an__law_in_span : Option Addr} {sl__law_in_span : Array (Option Value)} {kV__law_in_span dc__law_in_span pm__law_in_span cd__law_in_span ct__law_in_span : Value}
    {f__law_too_great : Addr} {oc__law_too_great : Value} {od__law_too_great an__law_too_great : Option Addr} {sl__law_too_great : Array (Option Value)} {kV__law_too_great dc__law_too_great pm__law_too_great cd__law_too_great ct__law_too_great : Value}
    {f__law_refused : Addr} {oc__law_refused : Value} {od__law_refused an__law_refused : Option Addr} {sl__law_refused : Array (Option Value)} {kV__law_refused dc__law_refused pm__law_refused cd__law_refused ct__law_refused : Value}
    {f__law_tested : Addr} {oc__law_tested : Value} {od__law_tested an__law_tested : Option Addr} {sl__law_tested : Array (Option Value)} {kV__law_tested dc__law_tested pm__law_tested cd__law_tested ct__law_tested : Value}
    {f__law_chosen : Addr} {oc__law_chosen : Value} {od__law_chosen an__law_chosen : Option Addr} {sl__law_chosen : Array (Option Value)} {kV__law_chosen dc__law_chosen pm__law_chosen cd__law_chosen ct__law_chosen : Value}
    {f_law : Addr} {oc_law : Value} {od_law an_law : Option Addr} {sl_law : Array (Option Value)} {kV_law dc_law pm_law cd_law ct_law : Value}
    (gB_ValueError : PySem.W.nsIn K mainGlobals "ValueError" = some none)
    (gB_abs : PySem.W.nsIn K mainGlobals "abs" = some none)
    (gB_bool : PySem.W.nsIn K mainGlobals "bool" = some none)
    (gB_enumerate : PySem.W.nsIn K mainGlobals "enumerate" = some none)
    (gB_int : PySem.W.nsIn K mainGlobals "int" = some none)
    (gB_isinstance : PySem.W.nsIn K mainGlobals "isinstance" = some none)
    (gB_len : PySem.W.nsIn K mainGlobals "len" = some none)
    (gB_min : PySem.W.nsIn K mainGlobals "min" = some none)
    (gB_range : PySem.W.nsIn K mainGlobals "range" = some none)
    (gB_set : PySem.W.nsIn K mainGlobals "set" = some none)
    (gB_sorted : PySem.W.nsIn K mainGlobals "sorted" = some none)
    (gB_str : PySem.W.nsIn K mainGlobals "str" = some none)
    (gB_tuple : PySem.W.nsIn K mainGlobals "tuple" = some none)
    (a_BellError : PySem.W.nsIn K mainGlobals "BellError" = some (some (.ref C_BellError)))
    (hd_BellError : PySem.W.hasDictIn K C_BellError = true)
    (ty_BellError : PySem.W.typeIn K (.ref C_BellError) = some (.type "type"))
    (a_InvalidKind : PySem.W.nsIn K mainGlobals "InvalidKind" = some (some (.ref C_InvalidKind)))
    (xl_InvalidKind : K.lookup C_InvalidKind = some (excClassObj nm_InvalidKind qn_InvalidKind C_InvalidKind N_InvalidKind bs_InvalidKind bm_InvalidKind true sn_InvalidKind su_InvalidKind ab_InvalidKind co_InvalidKind dd_InvalidKind m0_InvalidKind m1_InvalidKind m2_InvalidKind m3_InvalidKind m5_InvalidKind "ValueError.__new__"))
    (rv_InvalidKind : PySem.HandSPX.refsVE bm_InvalidKind = true)
    (sa_InvalidKind : PySem.W.findIn K (.ref C_InvalidKind) "__setattr__" = some (some (.builtin "object.__setattr__")))
    (ga_InvalidKind : PySem.W.findIn K (.ref C_InvalidKind) "__getattribute__" = some (some (.builtin "BaseException.__getattribute__")))
    (gg_InvalidKind : PySem.W.findIn K (.ref C_InvalidKind) "__getattr__" = some none)
    (ex_InvalidKind : PySem.W.subIn K (.ref C_InvalidKind) (.type "BaseException") = some true)
    (ty_InvalidKind : PySem.W.typeIn K (.ref C_InvalidKind) = some (.type "type"))
    (kC_InvalidKind : PySem.W.keepIn K (.ref C_InvalidKind) = true)
    (hd_InvalidKind : PySem.W.hasDictIn K C_InvalidKind = true)
    (ca_InvalidKind : PySem.W.findIn K (.ref C_InvalidKind) "__class__" = some (some (.builtin "object.__class__")))
    (cm_InvalidKind : PySem.W.mroIn K C_InvalidKind (.type "object") = some true)
    (no_InvalidKind_value : PySem.W.findIn K (.ref C_InvalidKind) "value" = some none)
    (ci_InvalidKind : PySem.W.findIn K (.ref C_InvalidKind) "__init__" = some (some (.ref I_InvalidKind)))
    (ti_InvalidKind : PySem.W.typeIn K (.ref I_InvalidKind) = some (.type "function"))
    (li_InvalidKind : K.lookup I_InvalidKind = some ⟨oc_InvalidKind, od_InvalidKind, .func (PySem.W.fnOf "__init__" "InvalidKind.__init__" (defArgs sInvalidKind) (defBody sInvalidKind) (defScope sInvalidKind) .none kV_InvalidKind dc_InvalidKind pm_InvalidKind an_InvalidKind cd_InvalidKind ct_InvalidKind), sl_InvalidKind⟩)
    (cc_InvalidKind : PySem.W.codeIn K cd_InvalidKind "InvalidKind.__init__" = true)
    (ki_InvalidKind : PySem.W.keepIn K (.ref I_InvalidKind) = true)
    (ss_InvalidKind : PySem.W.subIn K (.ref C_InvalidKind) (.ref C_InvalidKind) = some true)
    (a_BeyondCeiling : PySem.W.nsIn K mainGlobals "BeyondCeiling" = some (some (.ref C_BeyondCeiling)))
    (xl_BeyondCeiling : K.lookup C_BeyondCeiling = some (excClassObj nm_BeyondCeiling qn_BeyondCeiling C_BeyondCeiling N_BeyondCeiling bs_BeyondCeiling bm_BeyondCeiling true sn_BeyondCeiling su_BeyondCeiling ab_BeyondCeiling co_BeyondCeiling dd_BeyondCeiling m0_BeyondCeiling m1_BeyondCeiling m2_BeyondCeiling m3_BeyondCeiling m5_BeyondCeiling "ValueError.__new__"))
    (rv_BeyondCeiling : PySem.HandSPX.refsVE bm_BeyondCeiling = true)
    (sa_BeyondCeiling : PySem.W.findIn K (.ref C_BeyondCeiling) "__setattr__" = some (some (.builtin "object.__setattr__")))
    (ga_BeyondCeiling : PySem.W.findIn K (.ref C_BeyondCeiling) "__getattribute__" = some (some (.builtin "BaseException.__getattribute__")))
    (gg_BeyondCeiling : PySem.W.findIn K (.ref C_BeyondCeiling) "__getattr__" = some none)
    (ex_BeyondCeiling : PySem.W.subIn K (.ref C_BeyondCeiling) (.type "BaseException") = some true)
    (ty_BeyondCeiling : PySem.W.typeIn K (.ref C_BeyondCeiling) = some (.type "type"))
    (kC_BeyondCeiling : PySem.W.keepIn K (.ref C_BeyondCeiling) = true)
    (hd_BeyondCeiling : PySem.W.hasDictIn K C_BeyondCeiling = true)
    (ca_BeyondCeiling : PySem.W.findIn K (.ref C_BeyondCeiling) "__class__" = some (some (.builtin "object.__class__")))
    (cm_BeyondCeiling : PySem.W.mroIn K C_BeyondCeiling (.type "object") = some true)
    (no_BeyondCeiling_clock : PySem.W.findIn K (.ref C_BeyondCeiling) "clock" = some none)
    (no_BeyondCeiling_limit : PySem.W.findIn K (.ref C_BeyondCeiling) "limit" = some none)
    (ci_BeyondCeiling : PySem.W.findIn K (.ref C_BeyondCeiling) "__init__" = some (some (.ref I_BeyondCeiling)))
    (ti_BeyondCeiling : PySem.W.typeIn K (.ref I_BeyondCeiling) = some (.type "function"))
    (li_BeyondCeiling : K.lookup I_BeyondCeiling = some ⟨oc_BeyondCeiling, od_BeyondCeiling, .func (PySem.W.fnOf "__init__" "BeyondCeiling.__init__" (defArgs sBeyondCeiling) (defBody sBeyondCeiling) (defScope sBeyondCeiling) .none kV_BeyondCeiling dc_BeyondCeiling pm_BeyondCeiling an_BeyondCeiling cd_BeyondCeiling ct_BeyondCeiling), sl_BeyondCeiling⟩)
    (cc_BeyondCeiling : PySem.W.codeIn K cd_BeyondCeiling "BeyondCeiling.__init__" = true)
    (ki_BeyondCeiling : PySem.W.keepIn K (.ref I_BeyondCeiling) = true)
    (ss_BeyondCeiling : PySem.W.subIn K (.ref C_BeyondCeiling) (.ref C_BeyondCeiling) = some true)
    (xcn : PySem.W.specialIn K (.builtin "object.__class__") "__get__" = some (some (.builtin "getset_descriptor.__get__")))
    (xct : PySem.W.takesIn K (.builtin "object.__class__") = some true)
    (kt_BeyondCeiling_BellError : PySem.W.subIn K (.ref C_BeyondCeiling) (.ref C_BellError) = some true)
    (kt_BeyondCeiling_InvalidKind : PySem.W.subIn K (.ref C_BeyondCeiling) (.ref C_InvalidKind) = some false)
    (kt_BeyondCeiling_ValueError : PySem.W.subIn K (.ref C_BeyondCeiling) (.type "ValueError") = some true)
    (a_place_of : PySem.W.nsIn K mainGlobals "place_of" = some (some (.ref f_place_of)))
    (l_place_of : K.lookup f_place_of = some ⟨oc_place_of, od_place_of, .func (PySem.W.fnOf "place_of" "place_of" (defArgs splace_of) (defBody splace_of) (defScope splace_of) .none kV_place_of dc_place_of pm_place_of an_place_of cd_place_of ct_place_of), sl_place_of⟩)
    (c_place_of : PySem.W.codeIn K cd_place_of "place_of" = true)
    (k_place_of : PySem.W.keepIn K (.ref f_place_of) = true)
    (a_place_in : PySem.W.nsIn K mainGlobals "place_in" = some (some (.ref f_place_in)))
    (l_place_in : K.lookup f_place_in = some ⟨oc_place_in, od_place_in, .func (PySem.W.fnOf "place_in" "place_in" (defArgs splace_in) (defBody splace_in) (defScope splace_in) .none kV_place_in dc_place_in pm_place_in an_place_in cd_place_in ct_place_in), sl_place_in⟩)
    (c_place_in : PySem.W.codeIn K cd_place_in "place_in" = true)
    (k_place_in : PySem.W.keepIn K (.ref f_place_in) = true)
    (a_kind_in : PySem.W.nsIn K mainGlobals "kind_in" = some (some (.ref f_kind_in)))
    (l_kind_in : K.lookup f_kind_in = some ⟨oc_kind_in, od_kind_in, .func (PySem.W.fnOf "kind_in" "kind_in" (defArgs skind_in) (defBody skind_in) (defScope skind_in) .none kV_kind_in dc_kind_in pm_kind_in an_kind_in cd_kind_in ct_kind_in), sl_kind_in⟩)
    (c_kind_in : PySem.W.codeIn K cd_kind_in "kind_in" = true)
    (k_kind_in : PySem.W.keepIn K (.ref f_kind_in) = true)
    (a_restart_kind : PySem.W.nsIn K mainGlobals "restart_kind" = some (some (.ref f_restart_kind)))
    (l_restart_kind : K.lookup f_restart_kind = some ⟨oc_restart_kind, od_restart_kind, .func (PySem.W.fnOf "restart_kind" "restart_kind" (defArgs srestart_kind) (defBody srestart_kind) (defScope srestart_kind) .none kV_restart_kind dc_restart_kind pm_restart_kind an_restart_kind cd_restart_kind ct_restart_kind), sl_restart_kind⟩)
    (c_restart_kind : PySem.W.codeIn K cd_restart_kind "restart_kind" = true)
    (k_restart_kind : PySem.W.keepIn K (.ref f_restart_kind) = true)
    (a__law_box : PySem.W.nsIn K mainGlobals "_law_box" = some (some (.ref f__law_box)))
    (l__law_box : K.lookup f__law_box = some ⟨oc__law_box, od__law_box, .func (PySem.W.fnOf "_law_box" "_law_box" (defArgs s_law_box) (defBody s_law_box) (defScope s_law_box) .none kV__law_box dc__law_box pm__law_box an__law_box cd__law_box ct__law_box), sl__law_box⟩)
    (c__law_box : PySem.W.codeIn K cd__law_box "_law_box" = true)
    (k__law_box : PySem.W.keepIn K (.ref f__law_box) = true)
    (a__law_draw : PySem.W.nsIn K mainGlobals "_law_draw" = some (some (.ref f__law_draw)))
    (l__law_draw : K.lookup f__law_draw = some ⟨oc__law_draw, od__law_draw, .func (PySem.W.fnOf "_law_draw" "_law_draw" (defArgs s_law_draw) (defBody s_law_draw) (defScope s_law_draw) .none kV__law_draw dc__law_draw pm__law_draw an__law_draw cd__law_draw ct__law_draw), sl__law_draw⟩)
    (c__law_draw : PySem.W.codeIn K cd__law_draw "_law_draw" = true)
    (k__law_draw : PySem.W.keepIn K (.ref f__law_draw) = true)
    (a__law_is_int : PySem.W.nsIn K mainGlobals "_law_is_int" = some (some (.ref f__law_is_int)))
    (l__law_is_int : K.lookup f__law_is_int = some ⟨oc__law_is_int, od__law_is_int, .func (PySem.W.fnOf "_law_is_int" "_law_is_int" (defArgs s_law_is_int) (defBody s_law_is_int) (defScope s_law_is_int) .none kV__law_is_int dc__law_is_int pm__law_is_int an__law_is_int cd__law_is_int ct__law_is_int), sl__law_is_int⟩)
    (c__law_is_int : PySem.W.codeIn K cd__law_is_int "_law_is_int" = true)
    (k__law_is_int : PySem.W.keepIn K (.ref f__law_is_int) = true)
    (a__law_same : PySem.W.nsIn K mainGlobals "_law_same" = some (some (.ref f__law_same)))
    (l__law_same : K.lookup f__law_same = some ⟨oc__law_same, od__law_same, .func (PySem.W.fnOf "_law_same" "_law_same" (defArgs s_law_same) (defBody s_law_same) (defScope s_law_same) .none kV__law_same dc__law_same pm__law_same an__law_same cd__law_same ct__law_same), sl__law_same⟩)
    (c__law_same : PySem.W.codeIn K cd__law_same "_law_same" = true)
    (k__law_same : PySem.W.keepIn K (.ref f__law_same) = true)
    (a__law_placed : PySem.W.nsIn K mainGlobals "_law_placed" = some (some (.ref f__law_placed)))
    (l__law_placed : K.lookup f__law_placed = some ⟨oc__law_placed, od__law_placed, .func (PySem.W.fnOf "_law_placed" "_law_placed" (defArgs s_law_placed) (defBody s_law_placed) (defScope s_law_placed) .none kV__law_placed dc__law_placed pm__law_placed an__law_placed cd__law_placed ct__law_placed), sl__law_placed⟩)
    (c__law_placed : PySem.W.codeIn K cd__law_placed "_law_placed" = true)
    (k__law_placed : PySem.W.keepIn K (.ref f__law_placed) = true)
    (a__law_kind : PySem.W.nsIn K mainGlobals "_law_kind" = some (some (.ref f__law_kind)))
    (l__law_kind : K.lookup f__law_kind = some ⟨oc__law_kind, od__law_kind, .func (PySem.W.fnOf "_law_kind" "_law_kind" (defArgs s_law_kind) (defBody s_law_kind) (defScope s_law_kind) .none kV__law_kind dc__law_kind pm__law_kind an__law_kind cd__law_kind ct__law_kind), sl__law_kind⟩)
    (c__law_kind : PySem.W.codeIn K cd__law_kind "_law_kind" = true)
    (k__law_kind : PySem.W.keepIn K (.ref f__law_kind) = true)
    (a__law_ceilings : PySem.W.nsIn K mainGlobals "_law_ceilings" = some (some (.ref f__law_ceilings)))
    (l__law_ceilings : K.lookup f__law_ceilings = some ⟨oc__law_ceilings, od__law_ceilings, .func (PySem.W.fnOf "_law_ceilings" "_law_ceilings" (defArgs s_law_ceilings) (defBody s_law_ceilings) (defScope s_law_ceilings) .none kV__law_ceilings dc__law_ceilings pm__law_ceilings an__law_ceilings cd__law_ceilings ct__law_ceilings), sl__law_ceilings⟩)
    (c__law_ceilings : PySem.W.codeIn K cd__law_ceilings "_law_ceilings" = true)
    (k__law_ceilings : PySem.W.keepIn K (.ref f__law_ceilings) = true)
    (a__law_span : PySem.W.nsIn K mainGlobals "_law_span" = some (some (.ref f__law_span)))
    (l__law_span : K.lookup f__law_span = some ⟨oc__law_span, od__law_span, .func (PySem.W.fnOf "_law_span" "_law_span" (defArgs s_law_span) (defBody s_law_span) (defScope s_law_span) .none kV__law_span dc__law_span pm__law_span an__law_span cd__law_span ct__law_span), sl__law_span⟩)
    (c__law_span : PySem.W.codeIn K cd__law_span "_law_span" = true)
    (k__law_span : PySem.W.keepIn K (.ref f__law_span) = true)
    (a__law_in_span : PySem.W.nsIn K mainGlobals "_law_in_span" = some (some (.ref f__law_in_span)))
    (l__law_in_span : K.lookup f__law_in_span = some ⟨oc__law_in_span, od__law_in_span, .func (PySem.W.fnOf "_law_in_span" "_law_in_span" (defArgs s_law_in_span) (defBody s_law_in_span) (defScope s_law_in_span) .none kV__law_in_span dc__law_in_span pm__law_in_span an__law_in_span cd__law_in_span ct__law_in_span), sl__law_in_span⟩)
    (c__law_in_span : PySem.W.codeIn K cd__law_in_span "_law_in_span" = true)
    (k__law_in_span : PySem.W.keepIn K (.ref f__law_in_span) = true)
    (a__law_too_great : PySem.W.nsIn K mainGlobals "_law_too_great" = some (some (.ref f__law_too_great)))
    (l__law_too_great : K.lookup f__law_too_great = some ⟨oc__law_too_great, od__law_too_great, .func (PySem.W.fnOf "_law_too_great" "_law_too_great" (defArgs s_law_too_great) (defBody s_law_too_great) (defScope s_law_too_great) .none kV__law_too_great dc__law_too_great pm__law_too_great an__law_too_great cd__law_too_great ct__law_too_great), sl__law_too_great⟩)
    (c__law_too_great : PySem.W.codeIn K cd__law_too_great "_law_too_great" = true)
    (k__law_too_great : PySem.W.keepIn K (.ref f__law_too_great) = true)
    (a__law_refused : PySem.W.nsIn K mainGlobals "_law_refused" = some (some (.ref f__law_refused)))
    (l__law_refused : K.lookup f__law_refused = some ⟨oc__law_refused, od__law_refused, .func (PySem.W.fnOf "_law_refused" "_law_refused" (defArgs s_law_refused) (defBody s_law_refused) (defScope s_law_refused) .none kV__law_refused dc__law_refused pm__law_refused an__law_refused cd__law_refused ct__law_refused), sl__law_refused⟩)
    (c__law_refused : PySem.W.codeIn K cd__law_refused "_law_refused" = true)
    (k__law_refused : PySem.W.keepIn K (.ref f__law_refused) = true)
    (a__law_tested : PySem.W.nsIn K mainGlobals "_law_tested" = some (some (.ref f__law_tested)))
    (l__law_tested : K.lookup f__law_tested = some ⟨oc__law_tested, od__law_tested, .func (PySem.W.fnOf "_law_tested" "_law_tested" (defArgs s_law_tested) (defBody s_law_tested) (defScope s_law_tested) .none kV__law_tested dc__law_tested pm__law_tested an__law_tested cd__law_tested ct__law_tested), sl__law_tested⟩)
    (c__law_tested : PySem.W.codeIn K cd__law_tested "_law_tested" = true)
    (k__law_tested : PySem.W.keepIn K (.ref f__law_tested) = true)
    (a__law_chosen : PySem.W.nsIn K mainGlobals "_law_chosen" = some (some (.ref f__law_chosen)))
    (l__law_chosen : K.lookup f__law_chosen = some ⟨oc__law_chosen, od__law_chosen, .func (PySem.W.fnOf "_law_chosen" "_law_chosen" (defArgs s_law_chosen) (defBody s_law_chosen) (defScope s_law_chosen) .none kV__law_chosen dc__law_chosen pm__law_chosen an__law_chosen cd__law_chosen ct__law_chosen), sl__law_chosen⟩)
    (c__law_chosen : PySem.W.codeIn K cd__law_chosen "_law_chosen" = true)
    (k__law_chosen : PySem.W.keepIn K (.ref f__law_chosen) = true)
    (a_law : PySem.W.nsIn K mainGlobals "law" = some (some (.ref f_law)))
    (l_law : K.lookup f_law = some ⟨oc_law, od_law, .func (PySem.W.fnOf "law" "law" (defArgs slaw) (defBody slaw) (defScope slaw) .none kV_law dc_law pm_law an_law cd_law ct_law), sl_law⟩)
    (c_law : PySem.W.codeIn K cd_law "law" = true)
    (k_law : PySem.W.keepIn K (.ref f_law) = true)
    : ∃ fd : FuncData, (∀ (s : Shared) (v : Value), BindsTo s fd ⟨[v], []⟩ [("script", v)]) ∧ ∀ base : Heap, K.In base → base.Ns mainGlobals mg → FnOk P w K mg base (L2N.CX P w) 11 fa fd ["script"] (spLaw K) := by
  have e : fa = f_law := Value.ref.inj (Option.some.inj (hfa.symm.trans (PySem.W.mg_of X G a_law)))
  let T : Tx K mg := {
    b_ValueError := PySem.W.mg_none_of X G gB_ValueError,
    b_abs := PySem.W.mg_none_of X G gB_abs,
    b_bool := PySem.W.mg_none_of X G gB_bool,
    b_enumerate := PySem.W.mg_none_of X G gB_enumerate,
    b_int := PySem.W.mg_none_of X G gB_int,
    b_isinstance := PySem.W.mg_none_of X G gB_isinstance,
    b_len := PySem.W.mg_none_of X G gB_len,
    b_min := PySem.W.mg_none_of X G gB_min,
    b_range := PySem.W.mg_none_of X G gB_range,
    b_set := PySem.W.mg_none_of X G gB_set,
    b_sorted := PySem.W.mg_none_of X G gB_sorted,
    b_str := PySem.W.mg_none_of X G gB_str,
    b_tuple := PySem.W.mg_none_of X G gB_tuple,
    c_BellError := C_BellError,
    gl_BellError := PySem.W.mg_of X G a_BellError,
    c_InvalidKind := C_InvalidKind,
    ci_InvalidKind := I_InvalidKind,
    di_InvalidKind := PySem.W.fnOf "__init__" "InvalidKind.__init__" (defArgs sInvalidKind) (defBody sInvalidKind) (defScope sInvalidKind) .none kV_InvalidKind dc_InvalidKind pm_InvalidKind an_InvalidKind cd_InvalidKind ct_InvalidKind,
    e_InvalidKind := ⟨PySem.W.mg_of X G a_InvalidKind, ⟨⟨_, _, _, _, _, _, _, _, _, _, _, _, _, _, _, xl_InvalidKind, rv_InvalidKind⟩, sa_InvalidKind, ex_InvalidKind, ty_InvalidKind, kC_InvalidKind⟩, ⟨ga_InvalidKind, gg_InvalidKind, ex_InvalidKind, hd_InvalidKind⟩, cl_of hd_InvalidKind, ca_InvalidKind, xcn, xct, cm_InvalidKind, (no1 no_InvalidKind_value)⟩,
    i_InvalidKind := ci_InvalidKind,
    t_InvalidKind := ti_InvalidKind,
    u_InvalidKind := fun_mk li_InvalidKind cc_InvalidKind ki_InvalidKind,
    x_InvalidKind := PySem.W.exm_ref ex_InvalidKind hd_InvalidKind ty_InvalidKind ss_InvalidKind,
    c_BeyondCeiling := C_BeyondCeiling,
    ci_BeyondCeiling := I_BeyondCeiling,
    di_BeyondCeiling := PySem.W.fnOf "__init__" "BeyondCeiling.__init__" (defArgs sBeyondCeiling) (defBody sBeyondCeiling) (defScope sBeyondCeiling) .none kV_BeyondCeiling dc_BeyondCeiling pm_BeyondCeiling an_BeyondCeiling cd_BeyondCeiling ct_BeyondCeiling,
    e_BeyondCeiling := ⟨PySem.W.mg_of X G a_BeyondCeiling, ⟨⟨_, _, _, _, _, _, _, _, _, _, _, _, _, _, _, xl_BeyondCeiling, rv_BeyondCeiling⟩, sa_BeyondCeiling, ex_BeyondCeiling, ty_BeyondCeiling, kC_BeyondCeiling⟩, ⟨ga_BeyondCeiling, gg_BeyondCeiling, ex_BeyondCeiling, hd_BeyondCeiling⟩, cl_of hd_BeyondCeiling, ca_BeyondCeiling, xcn, xct, cm_BeyondCeiling, (no2 no_BeyondCeiling_clock no_BeyondCeiling_limit)⟩,
    i_BeyondCeiling := ci_BeyondCeiling,
    t_BeyondCeiling := ti_BeyondCeiling,
    u_BeyondCeiling := fun_mk li_BeyondCeiling cc_BeyondCeiling ki_BeyondCeiling,
    x_BeyondCeiling := PySem.W.exm_ref ex_BeyondCeiling hd_BeyondCeiling ty_BeyondCeiling ss_BeyondCeiling,
    k_BeyondCeiling_BellError := kit_ref hd_BellError ty_BellError kt_BeyondCeiling_BellError ss_BeyondCeiling,
    k_BeyondCeiling_InvalidKind := kit_ref hd_InvalidKind ty_InvalidKind kt_BeyondCeiling_InvalidKind ss_BeyondCeiling,
    k_BeyondCeiling_ValueError := kit_typ (by decide +kernel) kt_BeyondCeiling_ValueError,
    a_place_of := f_place_of,
    d_place_of := PySem.W.fnOf "place_of" "place_of" (defArgs splace_of) (defBody splace_of) (defScope splace_of) .none kV_place_of dc_place_of pm_place_of an_place_of cd_place_of ct_place_of,
    g_place_of := PySem.W.mg_of X G a_place_of,
    u_place_of := fun_mk l_place_of c_place_of k_place_of,
    k_place_of := k_place_of,
    a_place_in := f_place_in,
    d_place_in := PySem.W.fnOf "place_in" "place_in" (defArgs splace_in) (defBody splace_in) (defScope splace_in) .none kV_place_in dc_place_in pm_place_in an_place_in cd_place_in ct_place_in,
    g_place_in := PySem.W.mg_of X G a_place_in,
    u_place_in := fun_mk l_place_in c_place_in k_place_in,
    k_place_in := k_place_in,
    a_kind_in := f_kind_in,
    d_kind_in := PySem.W.fnOf "kind_in" "kind_in" (defArgs skind_in) (defBody skind_in) (defScope skind_in) .none kV_kind_in dc_kind_in pm_kind_in an_kind_in cd_kind_in ct_kind_in,
    g_kind_in := PySem.W.mg_of X G a_kind_in,
    u_kind_in := fun_mk l_kind_in c_kind_in k_kind_in,
    k_kind_in := k_kind_in,
    a_restart_kind := f_restart_kind,
    d_restart_kind := PySem.W.fnOf "restart_kind" "restart_kind" (defArgs srestart_kind) (defBody srestart_kind) (defScope srestart_kind) .none kV_restart_kind dc_restart_kind pm_restart_kind an_restart_kind cd_restart_kind ct_restart_kind,
    g_restart_kind := PySem.W.mg_of X G a_restart_kind,
    u_restart_kind := fun_mk l_restart_kind c_restart_kind k_restart_kind,
    k_restart_kind := k_restart_kind,
    a__law_box := f__law_box,
    d__law_box := PySem.W.fnOf "_law_box" "_law_box" (defArgs s_law_box) (defBody s_law_box) (defScope s_law_box) .none kV__law_box dc__law_box pm__law_box an__law_box cd__law_box ct__law_box,
    g__law_box := PySem.W.mg_of X G a__law_box,
    u__law_box := fun_mk l__law_box c__law_box k__law_box,
    k__law_box := k__law_box,
    a__law_draw := f__law_draw,
    d__law_draw := PySem.W.fnOf "_law_draw" "_law_draw" (defArgs s_law_draw) (defBody s_law_draw) (defScope s_law_draw) .none kV__law_draw dc__law_draw pm__law_draw an__law_draw cd__law_draw ct__law_draw,
    g__law_draw := PySem.W.mg_of X G a__law_draw,
    u__law_draw := fun_mk l__law_draw c__law_draw k__law_draw,
    k__law_draw := k__law_draw,
    a__law_is_int := f__law_is_int,
    d__law_is_int := PySem.W.fnOf "_law_is_int" "_law_is_int" (defArgs s_law_is_int) (defBody s_law_is_int) (defScope s_law_is_int) .none kV__law_is_int dc__law_is_int pm__law_is_int an__law_is_int cd__law_is_int ct__law_is_int,
    g__law_is_int := PySem.W.mg_of X G a__law_is_int,
    u__law_is_int := fun_mk l__law_is_int c__law_is_int k__law_is_int,
    k__law_is_int := k__law_is_int,
    a__law_same := f__law_same,
    d__law_same := PySem.W.fnOf "_law_same" "_law_same" (defArgs s_law_same) (defBody s_law_same) (defScope s_law_same) .none kV__law_same dc__law_same pm__law_same an__law_same cd__law_same ct__law_same,
    g__law_same := PySem.W.mg_of X G a__law_same,
    u__law_same := fun_mk l__law_same c__law_same k__law_same,
    k__law_same := k__law_same,
    a__law_placed := f__law_placed,
    d__law_placed := PySem.W.fnOf "_law_placed" "_law_placed" (defArgs s_law_placed) (defBody s_law_placed) (defScope s_law_placed) .none kV__law_placed dc__law_placed pm__law_placed an__law_placed cd__law_placed ct__law_placed,
    g__law_placed := PySem.W.mg_of X G a__law_placed,
    u__law_placed := fun_mk l__law_placed c__law_placed k__law_placed,
    k__law_placed := k__law_placed,
    a__law_kind := f__law_kind,
    d__law_kind := PySem.W.fnOf "_law_kind" "_law_kind" (defArgs s_law_kind) (defBody s_law_kind) (defScope s_law_kind) .none kV__law_kind dc__law_kind pm__law_kind an__law_kind cd__law_kind ct__law_kind,
    g__law_kind := PySem.W.mg_of X G a__law_kind,
    u__law_kind := fun_mk l__law_kind c__law_kind k__law_kind,
    k__law_kind := k__law_kind,
    a__law_ceilings := f__law_ceilings,
    d__law_ceilings := PySem.W.fnOf "_law_ceilings" "_law_ceilings" (defArgs s_law_ceilings) (defBody s_law_ceilings) (defScope s_law_ceilings) .none kV__law_ceilings dc__law_ceilings pm__law_ceilings an__law_ceilings cd__law_ceilings ct__law_ceilings,
    g__law_ceilings := PySem.W.mg_of X G a__law_ceilings,
    u__law_ceilings := fun_mk l__law_ceilings c__law_ceilings k__law_ceilings,
    k__law_ceilings := k__law_ceilings,
    a__law_span := f__law_span,
    d__law_span := PySem.W.fnOf "_law_span" "_law_span" (defArgs s_law_span) (defBody s_law_span) (defScope s_law_span) .none kV__law_span dc__law_span pm__law_span an__law_span cd__law_span ct__law_span,
    g__law_span := PySem.W.mg_of X G a__law_span,
    u__law_span := fun_mk l__law_span c__law_span k__law_span,
    k__law_span := k__law_span,
    a__law_in_span := f__law_in_span,
    d__law_in_span := PySem.W.fnOf "_law_in_span" "_law_in_span" (defArgs s_law_in_span) (defBody s_law_in_span) (defScope s_law_in_span) .none kV__law_in_span dc__law_in_span pm__law_in_span an__law_in_span cd__law_in_span ct__law_in_span,
    g__law_in_span := PySem.W.mg_of X G a__law_in_span,
    u__law_in_span := fun_mk l__law_in_span c__law_in_span k__law_in_span,
    k__law_in_span := k__law_in_span,
    a__law_too_great := f__law_too_great,
    d__law_too_great := PySem.W.fnOf "_law_too_great" "_law_too_great" (defArgs s_law_too_great) (defBody s_law_too_great) (defScope s_law_too_great) .none kV__law_too_great dc__law_too_great pm__law_too_great an__law_too_great cd__law_too_great ct__law_too_great,
    g__law_too_great := PySem.W.mg_of X G a__law_too_great,
    u__law_too_great := fun_mk l__law_too_great c__law_too_great k__law_too_great,
    k__law_too_great := k__law_too_great,
    a__law_refused := f__law_refused,
    d__law_refused := PySem.W.fnOf "_law_refused" "_law_refused" (defArgs s_law_refused) (defBody s_law_refused) (defScope s_law_refused) .none kV__law_refused dc__law_refused pm__law_refused an__law_refused cd__law_refused ct__law_refused,
    g__law_refused := PySem.W.mg_of X G a__law_refused,
    u__law_refused := fun_mk l__law_refused c__law_refused k__law_refused,
    k__law_refused := k__law_refused,
    a__law_tested := f__law_tested,
    d__law_tested := PySem.W.fnOf "_law_tested" "_law_tested" (defArgs s_law_tested) (defBody s_law_tested) (defScope s_law_tested) .none kV__law_tested dc__law_tested pm__law_tested an__law_tested cd__law_tested ct__law_tested,
    g__law_tested := PySem.W.mg_of X G a__law_tested,
    u__law_tested := fun_mk l__law_tested c__law_tested k__law_tested,
    k__law_tested := k__law_tested,
    a__law_chosen := f__law_chosen,
    d__law_chosen := PySem.W.fnOf "_law_chosen" "_law_chosen" (defArgs s_law_chosen) (defBody s_law_chosen) (defScope s_law_chosen) .none kV__law_chosen dc__law_chosen pm__law_chosen an__law_chosen cd__law_chosen ct__law_chosen,
    g__law_chosen := PySem.W.mg_of X G a__law_chosen,
    u__law_chosen := fun_mk l__law_chosen c__law_chosen k__law_chosen,
    k__law_chosen := k__law_chosen,
    a_law := f_law,
    d_law := PySem.W.fnOf "law" "law" (defArgs slaw) (defBody slaw) (defScope slaw) .none kV_law dc_law pm_law an_law cd_law ct_law,
    g_law := PySem.W.mg_of X G a_law,
    u_law := fun_mk l_law c_law k_law,
    k_law := k_law }
  exact ⟨T.d_law, fun s v => .of_eq rfl, fun base _ _ => by rw [e]; exact (ok_law T).imp (law_sp hF)⟩
end K21
end

section
set_option Elab.async false
set_option maxRecDepth 100000
open PySem PySem.W PyProof.Rows in
set_option maxRecDepth 100000 in
set_option maxHeartbeats 0 in
theorem PySem.Challenge.cw_bellrest_k21_restarts_and_tests_holds : PySem.Challenge.rw_bellrest_k21_restarts_and_tests.Holds := by
  w_on; o_law; k_head; (case hw => w_witness2)
  k_fill
  refine Z.walk_Z (l := PySem.Challenge.rw_bellrest_k21_restarts_and_tests) (k := 11) rfl rfl ⟨rfl, by decide, by decide⟩ (fun w h Y => PySem.W.kIn_of Y) ?F
  case F =>
    intro w mg fa h KX G hmg
    refine' K21.all_mk KX G hmg K21.holds ?gB_ValueError ?gB_abs ?gB_bool ?gB_enumerate ?gB_int ?gB_isinstance ?gB_len ?gB_min ?gB_range ?gB_set ?gB_sorted ?gB_str ?gB_tuple ?a_BellError ?hd_BellError ?ty_BellError ?a_InvalidKind ?xl_InvalidKind ?rv_InvalidKind ?sa_InvalidKind ?ga_InvalidKind ?gg_InvalidKind ?ex_InvalidKind ?ty_InvalidKind ?kC_InvalidKind ?hd_InvalidKind ?ca_InvalidKind ?cm_InvalidKind ?no_InvalidKind_value ?ci_InvalidKind ?ti_InvalidKind ?li_InvalidKind ?cc_InvalidKind ?ki_InvalidKind ?ss_InvalidKind ?a_BeyondCeiling ?xl_BeyondCeiling ?rv_BeyondCeiling ?sa_BeyondCeiling ?ga_BeyondCeiling ?gg_BeyondCeiling ?ex_BeyondCeiling ?ty_BeyondCeiling ?kC_BeyondCeiling ?hd_BeyondCeiling ?ca_BeyondCeiling ?cm_BeyondCeiling ?no_BeyondCeiling_clock ?no_BeyondCeiling_limit ?ci_BeyondCeiling ?ti_BeyondCeiling ?li_BeyondCeiling ?cc_BeyondCeiling ?ki_BeyondCeiling ?ss_BeyondCeiling ?xcn ?xct ?kt_BeyondCeiling_BellError ?kt_BeyondCeiling_InvalidKind ?kt_BeyondCeiling_ValueError ?a_place_of ?l_place_of ?c_place_of ?k_place_of ?a_place_in ?l_place_in ?c_place_in ?k_place_in ?a_kind_in ?l_kind_in ?c_kind_in ?k_kind_in ?a_restart_kind ?l_restart_kind ?c_restart_kind ?k_restart_kind ?a__law_box ?l__law_box ?c__law_box ?k__law_box ?a__law_draw ?l__law_draw ?c__law_draw ?k__law_draw ?a__law_is_int ?l__law_is_int ?c__law_is_int ?k__law_is_int ?a__law_same ?l__law_same ?c__law_same ?k__law_same ?a__law_placed ?l__law_placed ?c__law_placed ?k__law_placed ?a__law_kind ?l__law_kind ?c__law_kind ?k__law_kind ?a__law_ceilings ?l__law_ceilings ?c__law_ceilings ?k__law_ceilings ?a__law_span ?l__law_span ?c__law_span ?k__law_span ?a__law_in_span ?l__law_in_span ?c__law_in_span ?k__law_in_span ?a__law_too_great ?l__law_too_great ?c__law_too_great ?k__law_too_great ?a__law_refused ?l__law_refused ?c__law_refused ?k__law_refused ?a__law_tested ?l__law_tested ?c__law_tested ?k__law_tested ?a__law_chosen ?l__law_chosen ?c__law_chosen ?k__law_chosen ?a_law ?l_law ?c_law ?k_law
    (case gB_ValueError => k_is)
    (case gB_abs => k_is)
    (case gB_bool => k_is)
    (case gB_enumerate => k_is)
    (case gB_int => k_is)
    (case gB_isinstance => k_is)
    (case gB_len => k_is)
    (case gB_min => k_is)
    (case gB_range => k_is)
    (case gB_set => k_is)
    (case gB_sorted => k_is)
    (case gB_str => k_is)
    (case gB_tuple => k_is)
    (case a_BellError => k_is)
    (case hd_BellError => k_is)
    (case ty_BellError => k_is)
    (case a_InvalidKind => k_is)
    (case xl_InvalidKind => k_is)
    (case rv_InvalidKind => decide +kernel)
    (case sa_InvalidKind => k_is)
    (case ga_InvalidKind => k_is)
    (case gg_InvalidKind => k_is)
    (case ex_InvalidKind => k_is)
    (case ty_InvalidKind => k_is)
    (case kC_InvalidKind => k_is)
    (case hd_InvalidKind => k_is)
    (case ca_InvalidKind => k_is)
    (case cm_InvalidKind => k_is)
    (case no_InvalidKind_value => k_is)
    (case ci_InvalidKind => k_is)
    (case ti_InvalidKind => k_is)
    (case li_InvalidKind => k_is)
    (case cc_InvalidKind => k_is)
    (case ki_InvalidKind => k_is)
    (case ss_InvalidKind => k_is)
    (case a_BeyondCeiling => k_is)
    (case xl_BeyondCeiling => k_is)
    (case rv_BeyondCeiling => decide +kernel)
    (case sa_BeyondCeiling => k_is)
    (case ga_BeyondCeiling => k_is)
    (case gg_BeyondCeiling => k_is)
    (case ex_BeyondCeiling => k_is)
    (case ty_BeyondCeiling => k_is)
    (case kC_BeyondCeiling => k_is)
    (case hd_BeyondCeiling => k_is)
    (case ca_BeyondCeiling => k_is)
    (case cm_BeyondCeiling => k_is)
    (case no_BeyondCeiling_clock => k_is)
    (case no_BeyondCeiling_limit => k_is)
    (case ci_BeyondCeiling => k_is)
    (case ti_BeyondCeiling => k_is)
    (case li_BeyondCeiling => k_is)
    (case cc_BeyondCeiling => k_is)
    (case ki_BeyondCeiling => k_is)
    (case ss_BeyondCeiling => k_is)
    (case xcn => k_is)
    (case xct => k_is)
    (case kt_BeyondCeiling_BellError => k_is)
    (case kt_BeyondCeiling_InvalidKind => k_is)
    (case kt_BeyondCeiling_ValueError => k_is)
    (case a_place_of => k_is)
    (case l_place_of => k_is)
    (case c_place_of => k_is)
    (case k_place_of => k_is)
    (case a_place_in => k_is)
    (case l_place_in => k_is)
    (case c_place_in => k_is)
    (case k_place_in => k_is)
    (case a_kind_in => k_is)
    (case l_kind_in => k_is)
    (case c_kind_in => k_is)
    (case k_kind_in => k_is)
    (case a_restart_kind => k_is)
    (case l_restart_kind => k_is)
    (case c_restart_kind => k_is)
    (case k_restart_kind => k_is)
    (case a__law_box => k_is)
    (case l__law_box => k_is)
    (case c__law_box => k_is)
    (case k__law_box => k_is)
    (case a__law_draw => k_is)
    (case l__law_draw => k_is)
    (case c__law_draw => k_is)
    (case k__law_draw => k_is)
    (case a__law_is_int => k_is)
    (case l__law_is_int => k_is)
    (case c__law_is_int => k_is)
    (case k__law_is_int => k_is)
    (case a__law_same => k_is)
    (case l__law_same => k_is)
    (case c__law_same => k_is)
    (case k__law_same => k_is)
    (case a__law_placed => k_is)
    (case l__law_placed => k_is)
    (case c__law_placed => k_is)
    (case k__law_placed => k_is)
    (case a__law_kind => k_is)
    (case l__law_kind => k_is)
    (case c__law_kind => k_is)
    (case k__law_kind => k_is)
    (case a__law_ceilings => k_is)
    (case l__law_ceilings => k_is)
    (case c__law_ceilings => k_is)
    (case k__law_ceilings => k_is)
    (case a__law_span => k_is)
    (case l__law_span => k_is)
    (case c__law_span => k_is)
    (case k__law_span => k_is)
    (case a__law_in_span => k_is)
    (case l__law_in_span => k_is)
    (case c__law_in_span => k_is)
    (case k__law_in_span => k_is)
    (case a__law_too_great => k_is)
    (case l__law_too_great => k_is)
    (case c__law_too_great => k_is)
    (case k__law_too_great => k_is)
    (case a__law_refused => k_is)
    (case l__law_refused => k_is)
    (case c__law_refused => k_is)
    (case k__law_refused => k_is)
    (case a__law_tested => k_is)
    (case l__law_tested => k_is)
    (case c__law_tested => k_is)
    (case k__law_tested => k_is)
    (case a__law_chosen => k_is)
    (case l__law_chosen => k_is)
    (case c__law_chosen => k_is)
    (case k__law_chosen => k_is)
    (case a_law => k_is)
    (case l_law => k_is)
    (case c_law => k_is)
    (case k_law => k_is)
#print axioms PySem.Challenge.cw_bellrest_k21_restarts_and_tests_holds
end
