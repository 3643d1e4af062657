import PyProof.Rows.All
import Wide.All
import OpenK.AllK
import Wide.FinOn
import HandS.ForExc
import HandS.Comp
import HandS.Iter
import HandS.Text
import HandS.Wide
import HandS.IsInst
import HandS.Style
import HandS.Gcd
import HandS.Deep
import HandS.CallSlots
import HandS.TupAny
import HandS.StrMore
import HandS.Walk
import HandS.Zip
import HandS.Rev
import HandS.ExcInit
import HandS.ExcIs
import HandS.ExcField
import KE.KExcIs
import HandS.Star
import HandS.Defaults
import HandS.EndBits
import HandS.RevTup
import HandS.FStr
import HandS.RaiseMore
import PySem.Challenge.RW_bellrest_k05_span_texts
section
set_option Elab.async false
set_option linter.all false
set_option maxRecDepth 100000
/-! Z: plain data D, a store of cells, and denotations of expressions and statements over them; each is held against the layer's readings once. -/
namespace Z
open PySem PySem.Spec PyProof.Rows L2

/-- plain data; ref n: the n-th cell of the store -/
inductive D where
  | non | bl (b : Bool) | int (i : Int) | str (x : Str) | tup (xs : List D) | lst (xs : List D) | frz (xs : List D) | ref (n : Nat)
  | err (a dd : Addr) (ks : List Str) (xs : List D)

inductive Cell where
  | lst (xs : List D)

abbrev Sto := List Cell
abbrev Env := List (Option D)

inductive R (α : Type) where
  | ok (a : α) (S : Sto)
  | ex (c : Str) (fs : List (Str × D)) (S : Sto)
  | bad

def R.bind {α β : Type} (r : R α) (k : α → Sto → R β) : R β := match r with
  | .ok a S => k a S
  | .ex c fs S => .ex c fs S
  | .bad => .bad
theorem R.bind_ok {α β : Type} {a : α} {S : Sto} {k : α → Sto → R β} : (R.ok a S).bind k = k a S := rfl
theorem R.bind_ex {α β : Type} {c : Str} {fs : List (Str × D)} {S : Sto} {k : α → Sto → R β} : (R.ex c fs S : R α).bind k = .ex c fs S := rfl
theorem R.bind_bad {α β : Type} {k : α → Sto → R β} : (R.bad : R α).bind k = .bad := rfl

/-! ### sizes that are asked (never reckoned out) -/
def Fit (n : Nat) : Prop := n ≤ sizeLine
def FitS (n : Nat) : Prop := n < sizeLine
noncomputable instance (n : Nat) : Decidable (Fit n) := Classical.propDecidable _
noncomputable instance (n : Nat) : Decidable (FitS n) := Classical.propDecidable _

/-! ### data and the heap -/
/-- the cells' addresses; addresses that no data may lean on -/
structure Em where
  c : List Addr
  b : List Addr
def Em.has (ι : Em) (a : Addr) : Prop := a ∈ ι.c ∨ a ∈ ι.b
/-- a tuple, a list of the written part -/
def StT (K : PySem.W.Frag) (a : Addr) (xs : List V) : Prop :=
  ∃ (o : Obj) (its : Array Value) (n : Nat), K.lookup a = some o ∧ o.cls = .type "tuple" ∧ o.data = .seq its n ∧ its.size ≤ sizeLine ∧ Vals xs its.toList
def StL (K : PySem.W.Frag) (a : Addr) (xs : List V) : Prop :=
  ∃ (o : Obj) (its : Array Value) (n : Nat), K.lookup a = some o ∧ o.cls = .type "list" ∧ o.dict = none ∧ o.data = .seq its n ∧ its.size ≤ sizeLine ∧ Vals xs its.toList

mutual
inductive Rp (K : PySem.W.Frag) (H : Hp) (ι : Em) : V → D → Prop
  | non : Rp K H ι .non .non
  | bl (b : Bool) : Rp K H ι (.bl b) (.bl b)
  | int (i : Int) : Rp K H ι (.int i) (.int i)
  | str (x : Str) : Rp K H ι (.str x) (.str x)
  | tup {a : Addr} {vs : List V} {ds : List D} : ¬ ι.has a → H a = some (.tup vs) → Rps K H ι vs ds → Rp K H ι (.ref a) (.tup ds)
  | tupK {a : Addr} {vs : List V} {ds : List D} : StT K a vs → Rps K H ι vs ds → Rp K H ι (.ref a) (.tup ds)
  | lst {a : Addr} {vs : List V} {ds : List D} : ¬ ι.has a → H a = some (.lst vs) → Rps K H ι vs ds → Rp K H ι (.ref a) (.lst ds)
  | frz {a : Addr} {o : Obj} {vs : List V} {ds : List D} : ¬ ι.has a → H a = some (.frz o (.lst vs)) → Rps K H ι vs ds → Rp K H ι (.ref a) (.frz ds)
  | frzK {a : Addr} {vs : List V} {ds : List D} : StL K a vs → Rps K H ι vs ds → Rp K H ι (.ref a) (.frz ds)
  | ref {a : Addr} {n : Nat} : ι.c[n]? = some a → Rp K H ι (.ref a) (.ref n)
  | err {a dd : Addr} {ks : List Str} {vs : List V} {ds : List D} : ¬ ι.has dd → H dd = some (.xd (ks.zip vs)) → Rps K H ι vs ds → Rp K H ι (.ref a) (.err a dd ks ds)
inductive Rps (K : PySem.W.Frag) (H : Hp) (ι : Em) : List V → List D → Prop
  | nil : Rps K H ι [] []
  | cons {v : V} {vs : List V} {d : D} {ds : List D} : Rp K H ι v d → Rps K H ι vs ds → Rps K H ι (v :: vs) (d :: ds)
end

/-- the heap goes on: new cells, all else as it stood -/
structure Ext (ι : Em) (H : Hp) (ι' : Em) (H' : Hp) : Prop where
  ban : ∃ nb, ι'.b = nb ++ ι.b ∧ ∀ p ∈ nb, H p = none
  pre : ∃ new, ι'.c = ι.c ++ new ∧ ∀ p ∈ new, H p = none
  keep : ∀ a o, a ∉ ι.c → H a = some o → H' a = some o

theorem Ext.refl {ι : Em} {H : Hp} : Ext ι H ι H := ⟨⟨[], rfl, by simp⟩, ⟨[], by simp, by simp⟩, fun _ _ _ h => h⟩
theorem Ext.outC {ι ι' : Em} {H H' : Hp} {a : Addr} {o : HO} (e : Ext ι H ι' H') (h : a ∉ ι.c) (ha : H a = some o) : a ∉ ι'.c := by
  obtain ⟨new, e1, hn⟩ := e.pre
  rw [e1]
  intro hm
  rcases List.mem_append.mp hm with hm | hm
  · exact h hm
  · rw [hn a hm] at ha; cases ha
theorem Ext.out {ι ι' : Em} {H H' : Hp} {a : Addr} {o : HO} (e : Ext ι H ι' H') (h : ¬ ι.has a) (ha : H a = some o) : ¬ ι'.has a := by
  rintro (hm | hm)
  · exact e.outC (fun z => h (.inl z)) ha hm
  · obtain ⟨nb, e2, hn⟩ := e.ban
    rw [e2] at hm
    rcases List.mem_append.mp hm with hm | hm
    · rw [hn a hm] at ha; cases ha
    · exact h (.inr hm)
theorem Ext.back {ι ι' : Em} {H H' : Hp} {a : Addr} (e : Ext ι H ι' H') (hd : ∀ b ∈ ι.c, H' b ≠ none) (h : H' a = none) : H a = none := by
  cases q : H a with
  | none => rfl
  | some o =>
    by_cases hm : a ∈ ι.c
    · exact absurd h (hd a hm)
    · rw [e.keep a o hm q] at h; cases h
theorem Ext.get {ι ι' : Em} {H H' : Hp} {a : Addr} {n : Nat} (e : Ext ι H ι' H') (h : ι.c[n]? = some a) : ι'.c[n]? = some a := by
  obtain ⟨new, e1, _⟩ := e.pre
  have hl : n < ι.c.length := (List.getElem?_eq_some_iff.mp h).1
  rw [e1, List.getElem?_append_left hl]; exact h

mutual
theorem Rp.ext {K : PySem.W.Frag} {ι ι' : Em} {H H' : Hp} (e : Ext ι H ι' H') : ∀ {v : V} {d : D}, Rp K H ι v d → Rp K H' ι' v d
  | _, _, .non => .non
  | _, _, .bl b => .bl b
  | _, _, .int i => .int i
  | _, _, .str x => .str x
  | _, _, .tup hn hr hs => .tup (e.out hn hr) (e.keep _ _ (fun z => hn (.inl z)) hr) (Rps.ext e hs)
  | _, _, .tupK h hs => .tupK h (Rps.ext e hs)
  | _, _, .lst hn hr hs => .lst (e.out hn hr) (e.keep _ _ (fun z => hn (.inl z)) hr) (Rps.ext e hs)
  | _, _, .frz hn hr hs => .frz (e.out hn hr) (e.keep _ _ (fun z => hn (.inl z)) hr) (Rps.ext e hs)
  | _, _, .frzK h hs => .frzK h (Rps.ext e hs)
  | _, _, .ref h => .ref (e.get h)
  | _, _, .err hn hr hs => .err (e.out hn hr) (e.keep _ _ (fun z => hn (.inl z)) hr) (Rps.ext e hs)
theorem Rps.ext {K : PySem.W.Frag} {ι ι' : Em} {H H' : Hp} (e : Ext ι H ι' H') : ∀ {vs : List V} {ds : List D}, Rps K H ι vs ds → Rps K H' ι' vs ds
  | _, _, .nil => .nil
  | _, _, .cons h hs => .cons (Rp.ext e h) (Rps.ext e hs)
end
section
variable {K : PySem.W.Frag} {ι ι' : Em} {H H' : Hp}
theorem Rps.length {vs : List V} {ds : List D} (h : Rps K H ι vs ds) : vs.length = ds.length := by
  induction vs generalizing ds with
  | nil => cases h; rfl
  | cons v vs ih => cases h with | cons h hs => simp [ih hs]
theorem Rps.get {vs : List V} {ds : List D} {i : Nat} {d : D} (h : Rps K H ι vs ds) (e : ds[i]? = some d) : ∃ v, vs[i]? = some v ∧ Rp K H ι v d := by
  induction vs generalizing ds i with
  | nil => cases h; simp at e
  | cons v vs ih =>
    cases h with
    | cons h hs =>
      cases i with
      | zero => simp at e; subst e; exact ⟨v, by simp, h⟩
      | succ i => simpa using ih hs (by simpa using e)
theorem Rps.getV {vs : List V} {ds : List D} {i : Nat} {v : V} (h : Rps K H ι vs ds) (e : vs[i]? = some v) : ∃ d, ds[i]? = some d ∧ Rp K H ι v d := by
  have hl := h.length
  have hi : i < ds.length := by rw [← hl]; exact (List.getElem?_eq_some_iff.mp e).1
  obtain ⟨w, e1, r⟩ := h.get (List.getElem?_eq_getElem hi)
  rw [e] at e1; cases e1
  exact ⟨_, List.getElem?_eq_getElem hi, r⟩
theorem Rps.append {vs ws : List V} {ds es : List D} (h : Rps K H ι vs ds) (h2 : Rps K H ι ws es) : Rps K H ι (vs ++ ws) (ds ++ es) := by
  induction vs generalizing ds with
  | nil => cases h; simpa using h2
  | cons v vs ih => cases h with | cons h hs => exact .cons h (ih hs)
theorem Rps.take {vs : List V} {ds : List D} (n : Nat) (h : Rps K H ι vs ds) : Rps K H ι (vs.take n) (ds.take n) := by
  induction n generalizing vs ds with
  | zero => simpa using Rps.nil
  | succ n ih => cases h with
    | nil => simpa using Rps.nil
    | cons h hs => simpa using Rps.cons h (ih hs)
theorem Rps.drop {vs : List V} {ds : List D} (n : Nat) (h : Rps K H ι vs ds) : Rps K H ι (vs.drop n) (ds.drop n) := by
  induction n generalizing vs ds with
  | zero => simpa using h
  | succ n ih => cases h with
    | nil => simpa using Rps.nil
    | cons h hs => simpa using ih hs
theorem Rps.reverse {vs : List V} {ds : List D} (h : Rps K H ι vs ds) : Rps K H ι vs.reverse ds.reverse := by
  induction vs generalizing ds with
  | nil => cases h; simpa using Rps.nil
  | cons v vs ih => cases h with
    | cons h hs => simpa using (ih hs).append (.cons h .nil)
theorem Rps.set {vs : List V} {ds : List D} {v : V} {d : D} (n : Nat) (h : Rps K H ι vs ds) (r : Rp K H ι v d) : Rps K H ι (vs.set n v) (ds.set n d) := by
  induction vs generalizing ds n with
  | nil => cases h; simpa using Rps.nil
  | cons w vs ih => cases h with
    | cons h hs => cases n with
      | zero => simpa using Rps.cons r hs
      | succ n => simpa using Rps.cons h (ih n hs)
/-- a list of data that is read -/
inductive SeqOf (K : PySem.W.Frag) (H : Hp) (ι : Em) (a : Addr) (vs : List V) : Prop
  | l : SqL K H a vs → SeqOf K H ι a vs
  | t : SqT K H a vs → SeqOf K H ι a vs
theorem Rp.tup_inv {v : V} {ds : List D} (h : Rp K H ι v (.tup ds)) : ∃ a vs, v = .ref a ∧ SqT K H a vs ∧ Rps K H ι vs ds := by
  cases h with
  | tup h1 h2 h3 => exact ⟨_, _, rfl, .inl (.inl h2), h3⟩
  | tupK h1 h3 => exact ⟨_, _, rfl, .inr h1, h3⟩
theorem Rp.lst_inv {v : V} {ds : List D} (h : Rp K H ι v (.lst ds)) : ∃ a vs, v = .ref a ∧ ¬ ι.has a ∧ H a = some (.lst vs) ∧ Rps K H ι vs ds := by
  cases h with
  | lst h1 h2 h3 => exact ⟨_, _, rfl, h1, h2, h3⟩
theorem Rp.frz_inv {v : V} {ds : List D} (h : Rp K H ι v (.frz ds)) : ∃ a vs, v = .ref a ∧ SqL K H a vs ∧ Rps K H ι vs ds := by
  cases h with
  | frz h1 h2 h3 => exact ⟨_, _, rfl, .inl (.inr ⟨_, h2⟩), h3⟩
  | frzK h1 h3 => exact ⟨_, _, rfl, .inr h1, h3⟩
theorem Rp.int_inv {v : V} {i : Int} (h : Rp K H ι v (.int i)) : v = .int i := by cases h; rfl
theorem Rp.bl_inv {v : V} {i : Bool} (h : Rp K H ι v (.bl i)) : v = .bl i := by cases h; rfl
theorem Rp.str_inv {v : V} {i : Str} (h : Rp K H ι v (.str i)) : v = .str i := by cases h; rfl
theorem Rp.non_inv {v : V} (h : Rp K H ι v .non) : v = .non := by cases h; rfl
theorem Rp.ref_inv {v : V} {n : Nat} (h : Rp K H ι v (.ref n)) : ∃ a, v = .ref a ∧ ι.c[n]? = some a := by cases h with | ref h => exact ⟨_, rfl, h⟩
end

/-! ### the store -/
def CellOk (K : PySem.W.Frag) (H : Hp) (ι : Em) (a : Addr) : Cell → Prop
  | .lst ds => ∃ vs, H a = some (.lst vs) ∧ Rps K H ι vs ds
structure Sr (K : PySem.W.Frag) (H : Hp) (ι : Em) (S : Sto) : Prop where
  len : ι.c.length = S.length
  nd : ι.c.Nodup
  ban : ∀ b ∈ ι.b, H b ≠ none
  cell : ∀ (n : Nat) (a : Addr) (c : Cell), ι.c[n]? = some a → S[n]? = some c → CellOk K H ι a c
section
variable {K : PySem.W.Frag} {ι ι' ι2 : Em} {H H' H2 : Hp} {S S' : Sto}
theorem CellOk.some {a : Addr} {c : Cell} (h : CellOk K H ι a c) : H a ≠ none := by
  cases c with
  | lst ds => obtain ⟨vs, e, _⟩ := h; rw [e]; simp
theorem Sr.dom (h : Sr K H ι S) : ∀ b ∈ ι.c, H b ≠ none := fun b hb => by
  obtain ⟨n, hn, e⟩ := List.getElem_of_mem hb
  have h2 : n < S.length := by rw [← h.len]; exact hn
  have e1 : ι.c[n]? = some b := by rw [List.getElem?_eq_getElem hn, e]
  exact (h.cell n b _ e1 (List.getElem?_eq_getElem h2)).some
theorem Sr.outC (h : Sr K H ι S) {p : Addr} (hp : H p = none) : p ∉ ι.c := fun hm => h.dom p hm hp
theorem Sr.out (h : Sr K H ι S) {p : Addr} (hp : H p = none) : ¬ ι.has p := by
  rintro (hm | hm)
  · exact h.dom p hm hp
  · exact h.ban p hm hp
theorem Ext.trans (a : Ext ι H ι' H') (b : Ext ι' H' ι2 H2) (hd : ∀ b ∈ ι.c, H' b ≠ none) : Ext ι H ι2 H2 := by
  obtain ⟨n1, e1, f1⟩ := a.pre
  obtain ⟨n2, e2, f2⟩ := b.pre
  obtain ⟨m1, g1, k1⟩ := a.ban
  obtain ⟨m2, g2, k2⟩ := b.ban
  refine ⟨⟨m2 ++ m1, by rw [g2, g1, List.append_assoc], fun p hp => ?_⟩, ⟨n1 ++ n2, by rw [e2, e1, List.append_assoc], fun p hp => ?_⟩, fun c o hc ho => b.keep c o (a.outC hc ho) (a.keep c o hc ho)⟩
  · rcases List.mem_append.mp hp with hp | hp
    · exact a.back hd (k2 p hp)
    · exact k1 p hp
  · rcases List.mem_append.mp hp with hp | hp
    · exact f1 p hp
    · exact a.back hd (f2 p hp)
theorem Ext.dom (a : Ext ι H ι' H') (s : Sr K H' ι' S') : ∀ b ∈ ι.c, H' b ≠ none := fun b hb => by
  obtain ⟨n1, e1, _⟩ := a.pre
  exact s.dom b (by rw [e1]; exact List.mem_append_left _ hb)
theorem Ext.tr (a : Ext ι H ι' H') (s : Sr K H' ι' S') (b : Ext ι' H' ι2 H2) : Ext ι H ι2 H2 := a.trans b (a.dom s)
/-- a new object that is no cell -/
theorem Ext.new {p : Addr} {o : HO} (hp : H p = none) : Ext ι H ι (upd H p o) := ⟨⟨[], rfl, by simp⟩, ⟨[], by simp, by simp⟩, fun a u _ h => by rw [upd_ne (ne_of_none h hp)]; exact h⟩
theorem CellOk.ext {a : Addr} {c : Cell} (e : Ext ι H ι' H') (h : CellOk K H ι a c) (k : H' a = H a) : CellOk K H' ι' a c := by
  cases c with
  | lst ds => obtain ⟨vs, e1, r⟩ := h; exact ⟨vs, by rw [k]; exact e1, r.ext e⟩
theorem upd_some {p b : Addr} {o : HO} (h : H b ≠ none) : upd H p o b ≠ none := by
  by_cases e : b = p
  · subst e; rw [upd_same]; simp
  · rw [upd_ne e]; exact h
theorem Sr.new {p : Addr} {o : HO} (h : Sr K H ι S) (hp : H p = none) : Sr K (upd H p o) ι S := ⟨h.len, h.nd, fun b hb => upd_some (h.ban b hb), fun n a c e1 e2 => (h.cell n a c e1 e2).ext (Ext.new hp) (upd_ne (by
  intro q; subst q; exact (h.cell n a c e1 e2).some hp))⟩
/-- a new cell -/
def Em.push (ι : Em) (p : Addr) : Em := ⟨ι.c ++ [p], ι.b⟩
theorem Ext.newC {p : Addr} {o : HO} (hp : H p = none) : Ext ι H (ι.push p) (upd H p o) := ⟨⟨[], rfl, by simp⟩, ⟨[p], rfl, by simpa using hp⟩, fun a u _ h => by rw [upd_ne (ne_of_none h hp)]; exact h⟩
theorem Sr.newC {p : Addr} {vs : List V} {ds : List D} (h : Sr K H ι S) (hp : H p = none) (r : Rps K H ι vs ds) : Sr K (upd H p (.lst vs)) (ι.push p) (S ++ [.lst ds]) := by
  refine ⟨by simp [Em.push, h.len], ?_, fun b hb => upd_some (h.ban b hb), fun n a c e1 e2 => ?_⟩
  · show (ι.c ++ [p]).Nodup
    rw [List.nodup_append]
    exact ⟨h.nd, by simp, fun a ha b hb => by simp at hb; subst hb; exact fun q => h.outC hp (q ▸ ha)⟩
  · replace e1 : (ι.c ++ [p])[n]? = some a := e1
    by_cases hn : n < ι.c.length
    · rw [List.getElem?_append_left hn] at e1
      rw [List.getElem?_append_left (by rw [← h.len]; exact hn)] at e2
      exact (h.cell n a c e1 e2).ext (Ext.newC hp) (upd_ne (by intro q; subst q; exact (h.cell n a c e1 e2).some hp))
    · have hn2 : n = ι.c.length := by
        have := (List.getElem?_eq_some_iff.mp e1).1
        simp at this; omega
      subst hn2
      rw [List.getElem?_append_right (Nat.le_refl _)] at e1
      rw [h.len, List.getElem?_append_right (Nat.le_refl _)] at e2
      simp at e1 e2
      subst e1; subst e2
      exact ⟨vs, upd_same, r.ext (Ext.newC hp)⟩
/-- a list cell's new content -/
theorem Ext.put {p : Addr} {n : Nat} {o : HO} (hp : ι.c[n]? = some p) : Ext ι H ι (upd H p o) := ⟨⟨[], rfl, by simp⟩, ⟨[], by simp, by simp⟩, fun a u ha h => by
  rw [upd_ne (fun q => ha (by rw [q]; exact List.mem_of_getElem? hp))]; exact h⟩
theorem Sr.put {p : Addr} {n : Nat} {vs : List V} {ds : List D} (h : Sr K H ι S) (hp : ι.c[n]? = some p) (r : Rps K H ι vs ds) : Sr K (upd H p (.lst vs)) ι (S.set n (.lst ds)) := by
  refine ⟨by simp [h.len], h.nd, fun b hb => upd_some (h.ban b hb), fun m a c e1 e2 => ?_⟩
  by_cases hm : m = n
  · subst hm
    rw [hp] at e1; cases e1
    have hl : m < S.length := by rw [← h.len]; exact (List.getElem?_eq_some_iff.mp hp).1
    rw [List.getElem?_set_self hl] at e2
    cases e2
    exact ⟨vs, upd_same, r.ext (Ext.put hp)⟩
  · rw [List.getElem?_set_ne (Ne.symm hm)] at e2
    refine (h.cell m a c e1 e2).ext (Ext.put hp) (upd_ne ?_)
    intro q
    subst q
    exact hm (nd_ix h.nd e1 hp)
/-! ### an address that no data leans on -/
def Em.ban (ι : Em) (p : Addr) : Em := ⟨ι.c, p :: ι.b⟩
theorem Ext.banned {p : Addr} {o : HO} (hp : H p = none) : Ext ι H (ι.ban p) (upd H p o) := ⟨⟨[p], rfl, by simpa using hp⟩, ⟨[], by simp [Em.ban], by simp⟩, fun a u _ h => by rw [upd_ne (ne_of_none h hp)]; exact h⟩
theorem Sr.banned {p : Addr} {o : HO} (h : Sr K H ι S) (hp : H p = none) : Sr K (upd H p o) (ι.ban p) S := by
  refine ⟨h.len, h.nd, fun b hb => ?_, fun n a c e1 e2 => (h.cell n a c e1 e2).ext (Ext.banned hp) (upd_ne fun q => (h.cell n a c e1 e2).some (q ▸ hp))⟩
  rcases List.mem_cons.mp hb with rfl | hb
  · rw [upd_same]; simp
  · exact upd_some (h.ban b hb)
mutual
/-- a banned object changes -/
theorem Rp.ban2 {p : Addr} {o : HO} (hb : p ∈ ι.b) : ∀ {v : V} {d : D}, Rp K H ι v d → Rp K (upd H p o) ι v d
  | _, _, .non => .non
  | _, _, .bl b => .bl b
  | _, _, .int i => .int i
  | _, _, .str x => .str x
  | _, _, .tup hn hr hs => .tup hn ((upd_ne fun (q : _ = p) => hn (.inr (by rw [q]; exact hb))).trans hr) (Rps.ban2 hb hs)
  | _, _, .tupK h hs => .tupK h (Rps.ban2 hb hs)
  | _, _, .lst hn hr hs => .lst hn ((upd_ne fun (q : _ = p) => hn (.inr (by rw [q]; exact hb))).trans hr) (Rps.ban2 hb hs)
  | _, _, .frz hn hr hs => .frz hn ((upd_ne fun (q : _ = p) => hn (.inr (by rw [q]; exact hb))).trans hr) (Rps.ban2 hb hs)
  | _, _, .frzK h hs => .frzK h (Rps.ban2 hb hs)
  | _, _, .ref h => .ref h
  | _, _, .err hn hr hs => .err hn ((upd_ne fun (q : _ = p) => hn (.inr (by rw [q]; exact hb))).trans hr) (Rps.ban2 hb hs)
theorem Rps.ban2 {p : Addr} {o : HO} (hb : p ∈ ι.b) : ∀ {vs : List V} {ds : List D}, Rps K H ι vs ds → Rps K (upd H p o) ι vs ds
  | _, _, .nil => .nil
  | _, _, .cons h hs => .cons (Rp.ban2 hb h) (Rps.ban2 hb hs)
end
theorem Sr.ban2 {p : Addr} {o : HO} (h : Sr K H ι S) (hb : p ∈ ι.b) (hp : p ∉ ι.c) : Sr K (upd H p o) ι S := by
  refine ⟨h.len, h.nd, fun b hb => upd_some (h.ban b hb), fun n a c e1 e2 => ?_⟩
  have q := h.cell n a c e1 e2
  have ne : a ≠ p := fun z => hp (z ▸ List.mem_of_getElem? e1)
  cases c with
  | lst ds => obtain ⟨vs, e3, r⟩ := q; exact ⟨vs, (upd_ne ne).trans e3, r.ban2 hb⟩
mutual
/-- fewer addresses are held -/
theorem Rp.less (hh : ∀ a, ι'.has a → ι.has a) (hc : ∀ (n : Nat) (a : Addr), ι.c[n]? = some a → ι'.c[n]? = some a) : ∀ {v : V} {d : D}, Rp K H ι v d → Rp K H ι' v d
  | _, _, .non => .non
  | _, _, .bl b => .bl b
  | _, _, .int i => .int i
  | _, _, .str x => .str x
  | _, _, .tup hn hr hs => .tup (fun z => hn (hh _ z)) hr (Rps.less hh hc hs)
  | _, _, .tupK h hs => .tupK h (Rps.less hh hc hs)
  | _, _, .lst hn hr hs => .lst (fun z => hn (hh _ z)) hr (Rps.less hh hc hs)
  | _, _, .frz hn hr hs => .frz (fun z => hn (hh _ z)) hr (Rps.less hh hc hs)
  | _, _, .frzK h hs => .frzK h (Rps.less hh hc hs)
  | _, _, .ref h => .ref (hc _ _ h)
  | _, _, .err hn hr hs => .err (fun z => hn (hh _ z)) hr (Rps.less hh hc hs)
theorem Rps.less (hh : ∀ a, ι'.has a → ι.has a) (hc : ∀ (n : Nat) (a : Addr), ι.c[n]? = some a → ι'.c[n]? = some a) : ∀ {vs : List V} {ds : List D}, Rps K H ι vs ds → Rps K H ι' vs ds
  | _, _, .nil => .nil
  | _, _, .cons h hs => .cons (Rp.less hh hc h) (Rps.less hh hc hs)
end
/-- a banned list is let go, as data | as a cell -/
def Em.free (ι : Em) (p : Addr) : Em := ⟨ι.c, ι.b.filter fun b => decide (b ≠ p)⟩
theorem Em.free_has {p a : Addr} (h : (ι.free p).has a) : ι.has a := h.imp id fun z => (List.mem_filter.mp z).1
theorem Sr.free {p : Addr} (h : Sr K H ι S) : Sr K H (ι.free p) S := by
  refine ⟨h.len, h.nd, fun b hb => h.ban b (List.mem_filter.mp hb).1, fun n a c e1 e2 => ?_⟩
  have q := h.cell n a c e1 e2
  cases c with
  | lst ds => obtain ⟨vs, e3, r⟩ := q; exact ⟨vs, e3, r.less (fun _ => Em.free_has) fun _ _ z => z⟩
theorem Ext.free {p : Addr} (e : Ext ι H ι' H') : Ext ι H ⟨ι'.c, ι'.b.filter fun b => decide (b ≠ p)⟩ H' ∨ p ∈ ι.b := by
  by_cases hp : p ∈ ι.b
  · exact .inr hp
  · obtain ⟨nb, e1, k⟩ := e.ban
    refine .inl ⟨⟨nb.filter fun b => decide (b ≠ p), ?_, fun q hq => k q (List.mem_filter.mp hq).1⟩, e.pre, e.keep⟩
    show ι'.b.filter _ = _
    rw [e1, List.filter_append]
    congr 1
    rw [List.filter_eq_self]
    intro b hb
    simp only [ne_eq, decide_eq_true_eq]
    exact fun z => hp (z ▸ hb)
theorem Em.push_has {p a : Addr} (hb : p ∈ ι.b) (h : ((ι.free p).push p).has a) : ι.has a := by
  rcases h with h | h
  · rcases List.mem_append.mp h with h | h
    · exact .inl h
    · cases List.mem_singleton.mp h; exact .inr hb
  · exact .inr (List.mem_filter.mp h).1
theorem Em.push_get {p : Addr} (n : Nat) (a : Addr) (h : ι.c[n]? = some a) : ((ι.free p).push p).c[n]? = some a := by
  show (ι.c ++ [p])[n]? = some a
  rw [List.getElem?_append_left (List.getElem?_eq_some_iff.mp h).1]; exact h
theorem Sr.adopt {p : Addr} {us : List V} {ds : List D} (h : Sr K H ι S) (hb : p ∈ ι.b) (hp : p ∉ ι.c) (e : H p = some (.lst us)) (r : Rps K H ι us ds) : Sr K H ((ι.free p).push p) (S ++ [.lst ds]) := by
  refine ⟨by show (ι.c ++ [p]).length = _; simp [h.len], ?_, fun b hb => h.ban b (List.mem_filter.mp hb).1, fun n a c e1 e2 => ?_⟩
  · show (ι.c ++ [p]).Nodup
    rw [List.nodup_append]
    exact ⟨h.nd, by simp, fun a ha b hb => by simp at hb; subst hb; exact fun q => hp (q ▸ ha)⟩
  · replace e1 : (ι.c ++ [p])[n]? = some a := e1
    by_cases hn : n < ι.c.length
    · rw [List.getElem?_append_left hn] at e1
      rw [List.getElem?_append_left (by rw [← h.len]; exact hn)] at e2
      have q := h.cell n a c e1 e2
      cases c with
      | lst es => obtain ⟨vs, e3, r⟩ := q; exact ⟨vs, e3, r.less (fun _ => Em.push_has hb) fun n a => Em.push_get n a⟩
    · have hn2 : n = ι.c.length := by
        have := (List.getElem?_eq_some_iff.mp e1).1
        simp at this; omega
      subst hn2
      rw [List.getElem?_append_right (Nat.le_refl _)] at e1
      rw [h.len, List.getElem?_append_right (Nat.le_refl _)] at e2
      simp at e1 e2
      subst e1; subst e2
      exact ⟨us, e, r.less (fun _ => Em.push_has hb) fun n a => Em.push_get n a⟩
end

/-! ### environments -/
def Er1 (K : PySem.W.Frag) (H : Hp) (ι : Em) (x : Option V) : Option D → Prop
  | none => True
  | some d => ∃ v, x = some v ∧ Rp K H ι v d
structure Er (K : PySem.W.Frag) (H : Hp) (ι : Em) (σ : L2.St) (env : Env) : Prop where
  len : σ.length = env.length
  at_ : ∀ (i : Nat) (d : D), env[i]? = some (some d) → ∃ v, σ[i]? = some (some v) ∧ Rp K H ι v d
section
variable {K : PySem.W.Frag} {ι ι' : Em} {H H' : Hp} {σ : L2.St} {env : Env}
theorem Er.ext (e : Ext ι H ι' H') (h : Er K H ι σ env) : Er K H' ι' σ env := ⟨h.len, fun i d q => let ⟨v, a, b⟩ := h.at_ i d q; ⟨v, a, b.ext e⟩⟩
theorem Er.set {i : Nat} {v : V} {d : D} (h : Er K H ι σ env) (r : Rp K H ι v d) : Er K H ι (σ.set i (some v)) (env.set i (some d)) := by
  refine ⟨by simp [h.len], fun j e q => ?_⟩
  by_cases hj : i = j
  · subst hj
    have hl : i < env.length := by
      have := (List.getElem?_eq_some_iff.mp q).1
      simpa using this
    rw [List.getElem?_set_self hl] at q
    cases q
    exact ⟨v, List.getElem?_set_self (by rw [h.len]; exact hl), r⟩
  · rw [List.getElem?_set_ne hj] at q ⊢
    exact h.at_ j e q
theorem Er.unset {i : Nat} {x : Option V} (h : Er K H ι σ env) : Er K H ι (σ.set i x) (env.set i none) := by
  refine ⟨by simp [h.len], fun j e q => ?_⟩
  by_cases hj : i = j
  · subst hj
    have hl : i < env.length := by
      have := (List.getElem?_eq_some_iff.mp q).1
      simpa using this
    rw [List.getElem?_set_self hl] at q
    cases q
  · rw [List.getElem?_set_ne hj] at q ⊢
    exact h.at_ j e q
end

/-! ### readings -/
/-- a class's address by its name -/
def clsOf (mg : Str → Option Value) (c : Str) : Option Value := mg c
/-- what is wished of a result -/
def Post {α β : Type} (K : PySem.W.Frag) (mg : Str → Option Value) (Rel : Hp → Em → β → α → Prop) (W : WX) (σ : L2.St) (ι : Em) (H : Hp) (r : R α) (Q : β → Hp → Prop) : Prop := match r with
  | .ok a S' => ∀ ι' H' v, Ext ι H ι' H' → Sr K H' ι' S' → Rel H' ι' v a → Q v H'
  | .ex c fs S' => ∀ ι' H' dd C us, Ext ι H ι' H' → Sr K H' ι' S' → mg c = some (.ref C) → H' dd = some (.xd ((fs.map (·.1)).zip us)) → ¬ ι'.has dd → Rps K H' ι' us (fs.map (·.2)) → W (.ref C) (some dd) σ H'
  | .bad => False
abbrev Den := Env → Sto → R D
abbrev DenA := Env → Sto → R (List D)
abbrev DenT := Env → Sto → R Bool
def rd (K : PySem.W.Frag) (mg : Str → Option Value) (W : WX) (d : Den) : TE := fun σ H Q => ∃ ι env S, Sr K H ι S ∧ Er K H ι σ env ∧ Post K mg (Rp K) W σ ι H (d env S) Q
def rdA (K : PySem.W.Frag) (mg : Str → Option Value) (W : WX) (d : DenA) : TA := fun σ H Q => ∃ ι env S, Sr K H ι S ∧ Er K H ι σ env ∧ Post K mg (Rps K) W σ ι H (d env S) Q
def rdT (K : PySem.W.Frag) (mg : Str → Option Value) (W : WX) (d : DenT) : TT := fun σ H Q => ∃ ι env S, Sr K H ι S ∧ Er K H ι σ env ∧ Post K mg (fun _ _ b c => b = c) W σ ι H (d env S) Q
section
variable {K : PySem.W.Frag} {mg : Str → Option Value} {W : WX} {σ : L2.St} {ι ι' : Em} {H H' : Hp} {S : Sto}
theorem Post.ext {α β : Type} {Rel : Hp → Em → β → α → Prop} {r : R α} {Q : β → Hp → Prop} (h : Post K mg Rel W σ ι H r Q) (e : Ext ι H ι' H') (s : Sr K H' ι' S) : Post K mg Rel W σ ι' H' r Q := by
  cases r with
  | ok a S' => exact fun ι2 H2 v e2 s2 r2 => h ι2 H2 v (e.tr s e2) s2 r2
  | ex c fs S' => exact fun ι2 H2 dd C gs e2 s2 hc => h ι2 H2 dd C gs (e.tr s e2) s2 hc
  | bad => exact h
theorem Post.mono {α β : Type} {Rel : Hp → Em → β → α → Prop} {r : R α} {Q Q' : β → Hp → Prop} (h : Post K mg Rel W σ ι H r Q) (f : ∀ v H, Q v H → Q' v H) : Post K mg Rel W σ ι H r Q' := by
  cases r with
  | ok a S' => exact fun ι2 H2 v e2 s2 r2 => f _ _ (h ι2 H2 v e2 s2 r2)
  | ex c fs S' => exact h
  | bad => exact h
theorem Post.bind {α β α' β' : Type} {Rel : Hp → Em → β → α → Prop} {Rel' : Hp → Em → β' → α' → Prop} {r : R α'} {k : α' → Sto → R α} {Q : β → Hp → Prop} (h : Post K mg Rel W σ ι H (r.bind k) Q) :
    Post K mg Rel' W σ ι H r (fun x H1 => ∃ ι1 a S1, Ext ι H ι1 H1 ∧ Sr K H1 ι1 S1 ∧ Rel' H1 ι1 x a ∧ Post K mg Rel W σ ι1 H1 (k a S1) Q) := by
  cases r with
  | ok a S' => exact fun ι2 H2 v e2 s2 r2 => ⟨ι2, a, S', e2, s2, r2, Post.ext h e2 s2⟩
  | ex c fs S' => exact h
  | bad => exact h
theorem Post.ret {α β : Type} {Rel : Hp → Em → β → α → Prop} {a : α} {v : β} {Q : β → Hp → Prop} (h : Post K mg Rel W σ ι H (.ok a S) Q) (s : Sr K H ι S) (r : Rel H ι v a) : Q v H := h ι H v Ext.refl s r
end
theorem PE.imp {X : Cx} {e : Expr} {t t' : TE} (h : PE X e t) (f : ∀ σ H Q, t' σ H Q → t σ H Q) : PE X e t' := ⟨fun pins s σ H Q I q => h.run pins s σ H Q I (f σ H Q q)⟩
theorem PT.imp {X : Cx} {e : Expr} {t t' : TT} (h : PT X e t) (f : ∀ σ H Q, t' σ H Q → t σ H Q) : PT X e t' := ⟨fun pins s σ H Q I q => h.run pins s σ H Q I (f σ H Q q)⟩
theorem PA.imp {X : Cx} {e : List Expr} {t t' : TA} (h : PA X e t) (f : ∀ σ H Q, t' σ H Q → t σ H Q) : PA X e t' := ⟨fun pos pins s σ H Q I q => h.run pos pins s σ H Q I (f σ H Q q)⟩
theorem PS.imp {X : Cx} {e : Stmt} {t t' : TS} (h : PS X e t) (f : ∀ D σ H, t' D σ H → t D σ H) : PS X e t' := ⟨fun pins s σ H D I q => h.run pins s σ H D I (f D σ H q)⟩
theorem PSs.imp {X : Cx} {e : List Stmt} {t t' : TS} (h : PSs X e t) (f : ∀ D σ H, t' D σ H → t D σ H) : PSs X e t' := ⟨fun pins s σ H D I q => h.run pins s σ H D I (f D σ H q)⟩
end Z
end

section
set_option Elab.async false
set_option linter.all false
set_option maxRecDepth 100000
set_option maxHeartbeats 1000000
namespace Z
noncomputable section
open PySem PySem.Spec PyProof.Rows L2

/-! ### what stands behind a list's value -/
/-- the items of a sequence: a tuple, a list -/
def seqOf (S : Sto) : D → Option (List D)
  | .tup xs => some xs
  | .lst xs => some xs
  | .frz xs => some xs
  | .ref n => match S[n]? with
    | some (.lst xs) => some xs
    | none => none
  | _ => none
/-- the items of a list -/
def lstOf (S : Sto) : D → Option (List D)
  | .lst xs => some xs
  | .frz xs => some xs
  | .ref n => match S[n]? with
    | some (.lst xs) => some xs
    | none => none
  | _ => none
/-- the items of a list that is laid in the call -/
def ownOf (S : Sto) : D → Option (List D)
  | .lst xs => some xs
  | .ref n => match S[n]? with
    | some (.lst xs) => some xs
    | none => none
  | _ => none
section
variable {K : PySem.W.Frag} {H : Hp} {ι : Em} {S : Sto} {v : V} {d : D} {xs : List D}
theorem Sr.list (s : Sr K H ι S) {n : Nat} {a : Addr} (h : ι.c[n]? = some a) (e : S[n]? = some (.lst xs)) : ∃ vs, H a = some (.lst vs) ∧ Rps K H ι vs xs := s.cell n a _ h e
theorem own_inv (s : Sr K H ι S) (r : Rp K H ι v d) (e : ownOf S d = some xs) : ∃ a vs, v = .ref a ∧ H a = some (.lst vs) ∧ Rps K H ι vs xs := by
  cases d with
  | lst ys => cases e; obtain ⟨a, vs, e1, _, e2, e3⟩ := r.lst_inv; exact ⟨a, vs, e1, e2, e3⟩
  | ref n =>
    obtain ⟨a, e1, e2⟩ := r.ref_inv
    simp only [ownOf] at e
    split at e
    · rename_i e3; cases e; obtain ⟨vs, h1, h2⟩ := s.list e2 e3; exact ⟨a, vs, e1, h1, h2⟩
    · cases e
  | _ => cases e
theorem lst_inv (s : Sr K H ι S) (r : Rp K H ι v d) (e : lstOf S d = some xs) : ∃ a vs, v = .ref a ∧ SqL K H a vs ∧ Rps K H ι vs xs := by
  cases d with
  | lst ys => cases e; obtain ⟨a, vs, e1, _, e2, e3⟩ := r.lst_inv; exact ⟨a, vs, e1, .of e2, e3⟩
  | frz ys => cases e; exact r.frz_inv
  | ref n =>
    obtain ⟨a, e1, e2⟩ := r.ref_inv
    simp only [lstOf] at e
    split at e
    · rename_i e3; cases e; obtain ⟨vs, h1, h2⟩ := s.list e2 e3; exact ⟨a, vs, e1, .of h1, h2⟩
    · cases e
  | _ => cases e
theorem seq_inv (s : Sr K H ι S) (r : Rp K H ι v d) (e : seqOf S d = some xs) : ∃ a vs, v = .ref a ∧ (SqL K H a vs ∨ SqT K H a vs) ∧ Rps K H ι vs xs := by
  cases d with
  | tup ys => cases e; obtain ⟨a, vs, e1, e2, e3⟩ := r.tup_inv; exact ⟨a, vs, e1, .inr e2, e3⟩
  | lst ys => cases e; obtain ⟨a, vs, e1, _, e2, e3⟩ := r.lst_inv; exact ⟨a, vs, e1, .inl (.of e2), e3⟩
  | frz ys => cases e; obtain ⟨a, vs, e1, e2, e3⟩ := r.frz_inv; exact ⟨a, vs, e1, .inl e2, e3⟩
  | ref n =>
    obtain ⟨a, e1, e2⟩ := r.ref_inv
    simp only [seqOf] at e
    split at e
    · rename_i e3; cases e; obtain ⟨vs, h1, h2⟩ := s.list e2 e3; exact ⟨a, vs, e1, .inl (.of h1), h2⟩
    · cases e
  | _ => cases e
end

/-! ### making objects -/
/-- a new list: data, or a cell -/
def mkL (c : Bool) (xs : List D) (S : Sto) : R D := if Fit xs.length then (if c then .ok (.ref S.length) (S ++ [.lst xs]) else .ok (.lst xs) S) else .bad
def mkT (xs : List D) (S : Sto) : R D := if Fit xs.length then .ok (.tup xs) S else .bad
section
variable {K : PySem.W.Frag} {mg : Str → Option Value} {W : WX} {σ : L2.St} {H : Hp} {ι : Em} {S : Sto} {xs : List D} {vs : List V} {Q : VK}
theorem Post.mkL {c : Bool} (h : Post K mg (Rp K) W σ ι H (mkL c xs S) Q) (s : Sr K H ι S) (r : Rps K H ι vs xs) : vs.length ≤ sizeLine ∧ ∀ p, H p = none → Q (.ref p) (upd H p (.lst vs)) := by
  unfold Z.mkL at h
  by_cases hl : Fit xs.length
  · rw [if_pos hl] at h
    refine ⟨by rw [r.length]; exact hl, fun p hp => ?_⟩
    cases c with
    | true =>
      exact h _ _ _ (Ext.newC hp) (s.newC hp r) (.ref (by show (ι.c ++ [p])[S.length]? = some p; rw [← s.len]; simp))
    | false => exact h _ _ _ (Ext.new hp) (s.new hp) (.lst (s.out hp) upd_same (r.ext (Ext.new hp)))
  · rw [if_neg hl] at h; exact h.elim
theorem Post.mkT (h : Post K mg (Rp K) W σ ι H (mkT xs S) Q) (s : Sr K H ι S) (r : Rps K H ι vs xs) : vs.length ≤ sizeLine ∧ ∀ p, H p = none → Q (.ref p) (upd H p (.tup vs)) := by
  unfold Z.mkT at h
  by_cases hl : Fit xs.length
  · rw [if_pos hl] at h
    exact ⟨by rw [r.length]; exact hl, fun p hp => h _ _ _ (Ext.new hp) (s.new hp) (.tup (s.out hp) upd_same (r.ext (Ext.new hp)))⟩
  · rw [if_neg hl] at h; exact h.elim
end

/-! ### names and constants -/
def dVar (i : Nat) : Den := fun env S => match env[i]? with
  | some (some d) => .ok d S
  | _ => .bad
def dC (d : D) : Den := fun _ S => .ok d S
section
variable {X : Cx} {W : WX}
abbrev EE (X : Cx) (W : WX) (e : Expr) (d : Den) : Prop := PE X e (rd X.K X.mg W d)
abbrev TT' (X : Cx) (W : WX) (e : Expr) (d : DenT) : Prop := PT X e (rdT X.K X.mg W d)
abbrev AA (X : Cx) (W : WX) (e : List Expr) (d : DenA) : Prop := PA X e (rdA X.K X.mg W d)
theorem rd_var {K : PySem.W.Frag} {mg : Str → Option Value} {i : Nat} {σ : L2.St} {H : Hp} {Q : VK} (h : rd K mg W (dVar i) σ H Q) : tVar i σ H Q := by
  obtain ⟨ι, env, S, s, er, p⟩ := h
  unfold dVar at p
  split at p
  · rename_i d e
    obtain ⟨v, e1, r⟩ := er.at_ i d e
    exact ⟨v, e1, p.ret s r⟩
  · exact p.elim
theorem ev (i : Nat) {x : Str} {pos : Pos} (hN : X.N[i]? = some x := by rfl) (hv : Vis X.env.scope x := by first | exact Or.inl rfl | exact Or.inr (Or.inl rfl) | exact Or.inr (Or.inr rfl)) (hd : (x == ("__debug__" : Str)) = false := by decide)
    (hcd : (x == ("__classdict__" : Str)) = false := by decide) : EE X W (.Name x pos) (dVar i) := PE.imp (pe_var hN hv hd hcd) fun _ _ _ h => rd_var h
/-- the constant data -/
inductive Flat : V → D → Prop
  | non : Flat .non .non
  | bl (b : Bool) : Flat (.bl b) (.bl b)
  | int (i : Int) : Flat (.int i) (.int i)
  | str (x : Str) : Flat (.str x) (.str x)
theorem Flat.rp {K : PySem.W.Frag} {H : Hp} {ι : Em} {v : V} {d : D} (h : Flat v d) : Rp K H ι v d := by cases h <;> constructor
theorem rd_c {K : PySem.W.Frag} {mg : Str → Option Value} {v : V} {d : D} {σ : L2.St} {H : Hp} {Q : VK} (f : ∀ ι, Rp K H ι v d) (h : rd K mg W (dC d) σ H Q) : tC v σ H Q := by
  obtain ⟨ι, env, S, s, er, p⟩ := h
  exact p.ret s (f ι)
theorem ec_int {i : Int} {j pos} : EE X W (.Constant (.int i) j pos) (dC (.int i)) := PE.imp pe_int fun _ _ _ h => rd_c (fun _ => .int i) h
theorem ec_bl {b : Bool} {j pos} : EE X W (.Constant (.bool b) j pos) (dC (.bl b)) := PE.imp pe_bl fun _ _ _ h => rd_c (fun _ => .bl b) h
theorem ec_non {j pos} : EE X W (.Constant .none j pos) (dC .non) := PE.imp pe_non fun _ _ _ h => rd_c (fun _ => .non) h
theorem ec_str {x : Str} {j pos} : EE X W (.Constant (.str x) j pos) (dC (.str x)) := PE.imp pe_str fun _ _ _ h => rd_c (fun _ => .str x) h
/-- a constant of the module: data of the written part -/
theorem e_glob {x : Str} {u : Value} {v : V} {d : D} {pos : Pos} (hg : Gl X x) (hm : X.mg x = some u) (r : RelV v u) (f : ∀ H ι, Rp X.K H ι v d) (hd : (x == ("__debug__" : Str)) = false := by decide) : EE X W (.Name x pos) (dC d) :=
  PE.imp (pe_glob hg hm r hd) fun _ _ _ h => rd_c (f _) h
end

/-! ### two places -/
def bin (f : D → D → Sto → R D) (a b : Den) : Den := fun env S => (a env S).bind fun x S1 => (b env S1).bind fun y S2 => f x y S2
def OpS (K : PySem.W.Frag) (r : R2) (f : D → D → Sto → R D) : Prop :=
  ∀ (mg : Str → Option Value) (W : WX) (σ : L2.St) (ι : Em) (H : Hp) (S : Sto) (x y : V) (dx dy : D) (Q : VK), Sr K H ι S → Rp K H ι x dx → Rp K H ι y dy → Post K mg (Rp K) W σ ι H (f dx dy S) Q → r x y H Q
section
variable {X : Cx} {W : WX} {a b c : Expr} {da db dc : Den} {pos : Pos} {r r' : R2} {f g : D → D → Sto → R D}
theorem rd_bin {K : PySem.W.Frag} {mg : Str → Option Value} {σ : L2.St} {H : Hp} {Q : VK} (hf : OpS K r f) (h : rd K mg W (bin f da db) σ H Q) : tOp r (rd K mg W da) (rd K mg W db) σ H Q := by
  obtain ⟨ι, env, S, s, er, p⟩ := h
  refine ⟨ι, env, S, s, er, (Post.bind (Rel' := Rp K) p).mono ?_⟩
  rintro x H1 ⟨ι1, dx, S1, e1, s1, r1, p1⟩
  refine ⟨ι1, env, S1, s1, er.ext e1, (Post.bind (Rel' := Rp K) p1).mono ?_⟩
  rintro y H2 ⟨ι2, dy, S2, e2, s2, r2, p2⟩
  exact hf mg W σ ι2 H2 S2 x y dx dy Q s2 (r1.ext e2) r2 p2
theorem e_op {op : Operator} (ho : OpR X (binaryOp op) r) (hf : OpS X.K r f) (ha : EE X W a da) (hb : EE X W b db) : EE X W (.BinOp a op b pos) (bin f da db) := PE.imp (pe_op ho ha hb) fun _ _ _ h => rd_bin hf h
theorem e_cmp {op : CmpOp} (ho : OpR X (compareOp op) r) (hf : OpS X.K r f) (ha : EE X W a da) (hb : EE X W b db) (hm : behindInMarks op b = false := by first | exact nomark _ | rfl) : EE X W (.Compare a [op] [b] pos) (bin f da db) := PE.imp (pe_cmpR ho ha hb hm) fun _ _ _ h => rd_bin hf h
theorem e_ix {r : R2} (ho : IxR X r) (hf : OpS X.K r f) (ha : EE X W a da) (hb : EE X W b db) (hs : PlainIx b := by exact fun _ _ => rfl) : EE X W (.Subscript a b pos) (bin f da db) := PE.imp (pe_ix ho ha hb hs) fun _ _ _ h => rd_bin hf h
theorem OpS.or1 {K : PySem.W.Frag} (h : OpS K r f) : OpS K (fun x y H Q => r x y H Q ∨ r' x y H Q) f := fun mg W σ ι H S x y dx dy Q s rx ry p => .inl (h mg W σ ι H S x y dx dy Q s rx ry p)
/-- a op1 b op2 c -/
def chain (f g : D → D → Sto → R D) (a b c : Den) : Den := fun env S => (a env S).bind fun x S1 => (b env S1).bind fun y S2 => (f x y S2).bind fun z S3 => match z with
  | .bl true => (c env S3).bind fun w S4 => g y w S4
  | .bl false => .ok (.bl false) S3
  | _ => .bad
theorem rd_chain {K : PySem.W.Frag} {mg : Str → Option Value} {σ : L2.St} {H : Hp} {Q : VK} (hf : OpS K r f) (hg : OpS K r' g) (h : rd K mg W (chain f g da db dc) σ H Q) : tChain r r' (rd K mg W da) (rd K mg W db) (rd K mg W dc) σ H Q := by
  obtain ⟨ι, env, S, s, er, p⟩ := h
  refine ⟨ι, env, S, s, er, (Post.bind (Rel' := Rp K) p).mono ?_⟩
  rintro x H1 ⟨ι1, dx, S1, e1, s1, r1, p1⟩
  refine ⟨ι1, env, S1, s1, er.ext e1, (Post.bind (Rel' := Rp K) p1).mono ?_⟩
  rintro y H2 ⟨ι2, dy, S2, e2, s2, r2, p2⟩
  refine hf mg W σ ι2 H2 S2 x y dx dy _ s2 (r1.ext e2) r2 ((Post.bind (Rel' := Rp K) p2).mono ?_)
  rintro z H3 ⟨ι3, dz, S3, e3, s3, r3, p3⟩
  cases dz with
  | bl k =>
    cases r3
    refine ⟨k, rfl, ?_⟩
    cases k with
    | true =>
      rw [if_pos rfl]
      refine ⟨ι3, env, S3, s3, ((er.ext e1).ext e2).ext e3, (Post.bind (Rel' := Rp K) p3).mono ?_⟩
      rintro w H4 ⟨ι4, dw, S4, e4, s4, r4, p4⟩
      exact hg mg W σ ι4 H4 S4 y w dy dw Q s4 ((r2.ext e3).ext e4) r4 p4
    | false =>
      rw [if_neg Bool.false_ne_true]
      exact p3.ret s3 (.bl false)
  | _ => exact p3.elim
theorem e_chain {op op' : CmpOp} (ho : OpR X (compareOp op) r) (ho' : OpR X (compareOp op') r') (hf : OpS X.K r f) (hg : OpS X.K r' g) (ha : EE X W a da) (hb : EE X W b db) (hc : EE X W c dc)
    (hm : lastMarks [op, op'] [b, c] = false := by with_unfolding_all rfl) : EE X W (.Compare a [op, op'] [b, c] pos) (chain f g da db dc) := PE.imp (pe_chain ho ho' ha hb hc hm) fun _ _ _ h => rd_chain hf hg h
end

/-! ### ints -/
def fAdd (x y : D) (S : Sto) : R D := match x, y with
  | .int i, .int j => .ok (.int (i + j)) S
  | _, _ => .bad
def fSub (x y : D) (S : Sto) : R D := match x, y with
  | .int i, .int j => .ok (.int (i - j)) S
  | _, _ => .bad
def MulOk (i j : Int) : Prop := CMul i j ∨ CMulW i j
noncomputable instance (i j : Int) : Decidable (MulOk i j) := Classical.propDecidable _
def fMul (x y : D) (S : Sto) : R D := match x, y with
  | .int i, .int j => if MulOk i j then .ok (.int (i * j)) S else .bad
  | _, _ => .bad
def DivOk (j : Int) : Prop := 0 < j ∧ j.natAbs.log2 < 9000
noncomputable instance (j : Int) : Decidable (DivOk j) := Classical.propDecidable _
def fDiv (x y : D) (S : Sto) : R D := match x, y with
  | .int i, .int j => if DivOk j then .ok (.int (i / j)) S else .bad
  | _, _ => .bad
def fMod (x y : D) (S : Sto) : R D := match x, y with
  | .int i, .int j => if 0 < j then .ok (.int (i % j)) S else .bad
  | _, _ => .bad
noncomputable instance (i j : Int) : Decidable (CPow i j) := Classical.propDecidable _
def fPow (x y : D) (S : Sto) : R D := match x, y with
  | .int i, .int j => if CPow i j then .ok (.int (i ^ j.toNat)) S else .bad
  | _, _ => .bad
def fLt (x y : D) (S : Sto) : R D := match x, y with
  | .int i, .int j => .ok (.bl (decide (i < j))) S
  | _, _ => .bad
def fLe (x y : D) (S : Sto) : R D := match x, y with
  | .int i, .int j => .ok (.bl (decide (i ≤ j))) S
  | _, _ => .bad
def fGt (x y : D) (S : Sto) : R D := match x, y with
  | .int i, .int j => .ok (.bl (decide (j < i))) S
  | _, _ => .bad
def fGe (x y : D) (S : Sto) : R D := match x, y with
  | .int i, .int j => .ok (.bl (decide (j ≤ i))) S
  | _, _ => .bad
section
variable {K : PySem.W.Frag} {X : Cx}
theorem int2 {H : Hp} {ι : Em} {x y : V} {i j : Int} (rx : Rp K H ι x (.int i)) (ry : Rp K H ι y (.int j)) : x = .int i ∧ y = .int j := ⟨rx.int_inv, ry.int_inv⟩
theorem opI0S {g : Int → Int → V} {f : D → D → Sto → R D} {gd : Int → Int → D} (hf : ∀ x y S, f x y S = match x, y with | .int i, .int j => .ok (gd i j) S | _, _ => .bad) (hg : ∀ i j, Flat (g i j) (gd i j)) : OpS K (rI0 g) f := by
  intro mg W σ ι H S x y dx dy Q s rx ry p
  rw [hf] at p
  split at p
  · rename_i i j
    obtain ⟨rfl, rfl⟩ := int2 rx ry
    exact ⟨i, j, rfl, rfl, p.ret s (hg i j).rp⟩
  · exact p.elim
theorem opIS {C : Int → Int → Prop} {D' : Int → Int → Prop} [∀ i j, Decidable (D' i j)] {g : Int → Int → V} {f : D → D → Sto → R D} {gd : Int → Int → D} (hf : ∀ x y S, f x y S = match x, y with | .int i, .int j => if D' i j then .ok (gd i j) S else .bad | _, _ => .bad) (hc : ∀ i j, D' i j → C i j) (hg : ∀ i j, Flat (g i j) (gd i j)) : OpS K (rI C g) f := by
  intro mg W σ ι H S x y dx dy Q s rx ry p
  rw [hf] at p
  split at p
  · rename_i i j
    obtain ⟨rfl, rfl⟩ := int2 rx ry
    by_cases h : D' i j
    · rw [if_pos h] at p; exact ⟨i, j, rfl, rfl, hc i j h, p.ret s (hg i j).rp⟩
    · rw [if_neg h] at p; exact p.elim
  · exact p.elim
theorem sAdd : OpS K (rI0 fun i j => .int (i + j)) fAdd := opI0S (fun _ _ _ => rfl) fun _ _ => .int _
theorem sSub : OpS K (rI0 fun i j => .int (i - j)) fSub := opI0S (fun _ _ _ => rfl) fun _ _ => .int _
def rMul : R2 := fun x y H Q => (rI CMul fun i j => .int (i * j)) x y H Q ∨ (rI CMulW fun i j => .int (i * j)) x y H Q
theorem oMul : OpR X (binaryOp .Mult) rMul := op_mul.or op_mulW
theorem sMul : OpS K rMul fMul := by
  intro mg W σ ι H S x y dx dy Q s rx ry p
  unfold fMul at p
  split at p
  · rename_i i j
    obtain ⟨rfl, rfl⟩ := int2 rx ry
    by_cases h : MulOk i j
    · rw [if_pos h] at p
      rcases h with h | h
      · exact .inl ⟨i, j, rfl, rfl, h, p.ret s (.int _)⟩
      · exact .inr ⟨i, j, rfl, rfl, h, p.ret s (.int _)⟩
    · rw [if_neg h] at p; exact p.elim
  · exact p.elim
theorem sDiv : OpS K (rI CDivW fun i j => .int (i / j)) fDiv := opIS (D' := fun _ j => DivOk j) (fun _ _ _ => rfl) (fun _ _ h => h) fun _ _ => .int _
theorem sMod : OpS K (rI (fun _ j => 0 < j) fun i j => .int (i % j)) fMod := opIS (D' := fun _ j => 0 < j) (fun _ _ _ => rfl) (fun _ _ h => h) fun _ _ => .int _
theorem sPow : OpS K (rI CPow fun i j => .int (i ^ j.toNat)) fPow := opIS (D' := CPow) (fun _ _ _ => rfl) (fun _ _ h => h) fun _ _ => .int _
theorem sLt : OpS K (rI0 fun i j => .bl (decide (i < j))) fLt := opI0S (fun _ _ _ => rfl) fun _ _ => .bl _
theorem sLe : OpS K (rI0 fun i j => .bl (decide (i ≤ j))) fLe := opI0S (fun _ _ _ => rfl) fun _ _ => .bl _
theorem sGt : OpS K (rI0 fun i j => .bl (decide (j < i))) fGt := opI0S (fun _ _ _ => rfl) fun _ _ => .bl _
theorem sGe : OpS K (rI0 fun i j => .bl (decide (j ≤ i))) fGe := opI0S (fun _ _ _ => rfl) fun _ _ => .bl _
end

/-! ### one place -/
def un (f : D → Sto → R D) (a : Den) : Den := fun env S => (a env S).bind f
def UnS (K : PySem.W.Frag) (r : V → Hp → VK → Prop) (f : D → Sto → R D) : Prop :=
  ∀ (mg : Str → Option Value) (W : WX) (σ : L2.St) (ι : Em) (H : Hp) (S : Sto) (x : V) (dx : D) (Q : VK), Sr K H ι S → Rp K H ι x dx → Post K mg (Rp K) W σ ι H (f dx S) Q → r x H Q
def fNeg (x : D) (S : Sto) : R D := match x with
  | .int i => .ok (.int (-i)) S
  | _ => .bad
section
variable {X : Cx} {W : WX} {a b : Expr} {da db : Den} {pos : Pos} {r : V → Hp → VK → Prop} {f : D → Sto → R D}
theorem rd_un {K : PySem.W.Frag} {mg : Str → Option Value} {σ : L2.St} {H : Hp} {Q : VK} (hf : UnS K r f) (h : rd K mg W (un f da) σ H Q) : tUn r (rd K mg W da) σ H Q := by
  obtain ⟨ι, env, S, s, er, p⟩ := h
  refine ⟨ι, env, S, s, er, (Post.bind (Rel' := Rp K) p).mono ?_⟩
  rintro x H1 ⟨ι1, dx, S1, e1, s1, r1, p1⟩
  exact hf mg W σ ι1 H1 S1 x dx Q s1 r1 p1
theorem e_un {op : UnaryOp} (ho : UnR X (unaryOp op) r) (hf : UnS X.K r f) (ha : EE X W a da) : EE X W (.UnaryOp op a pos) (un f da) := PE.imp (pe_un ho ha) fun _ _ _ h => rd_un hf h
theorem sNeg {K : PySem.W.Frag} : UnS K (rU fun i => .int (-i)) fNeg := by
  intro mg W σ ι H S x dx Q s rx p
  unfold fNeg at p
  split at p
  · cases rx; exact ⟨_, rfl, p.ret s (.int _)⟩
  · exact p.elim
end

/-! ### is -/
def isNon : D → Bool
  | .non => true
  | _ => false
def isBl (b : Bool) : D → Bool
  | .bl c => b == c
  | _ => false
def dIsN (a : Den) : Den := fun env S => (a env S).bind fun x S1 => .ok (.bl (isNon x)) S1
def dNotN (a : Den) : Den := fun env S => (a env S).bind fun x S1 => .ok (.bl (!isNon x)) S1
def dIsB (b : Bool) (a : Den) : Den := fun env S => (a env S).bind fun x S1 => .ok (.bl (isBl b x)) S1
def dNotB (b : Bool) (a : Den) : Den := fun env S => (a env S).bind fun x S1 => .ok (.bl (!isBl b x)) S1
section
variable {X : Cx} {W : WX} {a b : Expr} {da db : Den} {pos : Pos}
theorem Rp.isNon {K : PySem.W.Frag} {H : Hp} {ι : Em} {v : V} {d : D} (h : Rp K H ι v d) : decide (v = .non) = Z.isNon d := by cases h <;> simp [Z.isNon]
theorem Rp.isBl {K : PySem.W.Frag} {H : Hp} {ι : Em} {v : V} {d : D} {b : Bool} (h : Rp K H ι v d) : decide (v = .bl b) = Z.isBl b d := by
  cases h <;> simp [Z.isBl]
  rename_i c
  cases b <;> cases c <;> rfl
theorem e_isN {j pos'} (ha : EE X W a da) : EE X W (.Compare a [.Is] [.Constant .none j pos'] pos) (dIsN da) := PE.imp (pe_cmp (pc_isN ha)) fun σ H Q h => by
  obtain ⟨ι, env, S, s, er, p⟩ := h
  refine ⟨ι, env, S, s, er, (Post.bind (Rel' := Rp X.K) p).mono ?_⟩
  rintro x H1 ⟨ι1, dx, S1, e1, s1, r1, p1⟩
  rw [r1.isNon]; exact p1.ret s1 (.bl _)
theorem e_notN {j pos'} (ha : EE X W a da) : EE X W (.Compare a [.IsNot] [.Constant .none j pos'] pos) (dNotN da) := PE.imp (pe_cmp (pc_notN ha)) fun σ H Q h => by
  obtain ⟨ι, env, S, s, er, p⟩ := h
  refine ⟨ι, env, S, s, er, (Post.bind (Rel' := Rp X.K) p).mono ?_⟩
  rintro x H1 ⟨ι1, dx, S1, e1, s1, r1, p1⟩
  rw [r1.isNon]; exact p1.ret s1 (.bl _)
def rIsBl (b : Bool) : R2 := fun x y H Q => y = .bl b ∧ Q (.bl (decide (x = .bl b))) H
def rNotBl (b : Bool) : R2 := fun x y H Q => y = .bl b ∧ Q (.bl (!decide (x = .bl b))) H
theorem bl_other {b : Bool} {x : V} {v : Value} (r : RelV x v) (h : x ≠ .bl b) : v ≠ .bool b := by
  intro e; subst e
  exact h (r.inj (show RelV (.bl b) (.bool b) from rfl))
theorem plain_isB {x : V} {v : Value} {b : Bool} (r : RelV x v) : plainIs v (.bool b) = true := by
  cases x with
  | non => cases (show v = Value.none from r); rfl
  | bl c => cases (show v = Value.bool c from r); rfl
  | int i => obtain ⟨t, rfl⟩ := r; rfl
  | str i => obtain ⟨t, rfl⟩ := r; rfl
  | byt i => obtain ⟨t, rfl⟩ := r; rfl
  | flt i => obtain ⟨t, rfl⟩ := r; rfl
  | ref a => cases (show v = Value.ref a from r); rfl
  | ty n => cases (show v = Value.type n from r); rfl
theorem op_isB (b : Bool) : OpR X (compareOp .Is) (rIsBl b) := by
  intro pins s σ H x y v u Q I rx ry h
  obtain ⟨rfl, q⟩ := h
  cases (show u = Value.bool b from ry)
  by_cases e : x = .bl b
  · subst e
    cases (show v = Value.bool b from rx)
    exact wpAny_is_self rfl ⟨.bl true, H, I, rfl, by simpa using q⟩
  · exact wpAny_is_other (plain_isB rx) (bl_other rx e) ⟨.bl false, H, I, rfl, by simpa [e] using q⟩
theorem op_notB (b : Bool) : OpR X (compareOp .IsNot) (rNotBl b) := by
  intro pins s σ H x y v u Q I rx ry h
  obtain ⟨rfl, q⟩ := h
  cases (show u = Value.bool b from ry)
  by_cases e : x = .bl b
  · subst e
    cases (show v = Value.bool b from rx)
    exact wpAny_isNot_self rfl ⟨.bl false, H, I, rfl, by simpa using q⟩
  · exact wpAny_isNot_other (plain_isB rx) (bl_other rx e) ⟨.bl true, H, I, rfl, by simpa [e] using q⟩
theorem e_isB {b : Bool} {j pos'} (ha : EE X W a da) : EE X W (.Compare a [.Is] [.Constant (.bool b) j pos'] pos) (dIsB b da) := PE.imp (pe_cmpR (op_isB b) ha pe_bl (nomark _)) fun σ H Q h => by
  obtain ⟨ι, env, S, s, er, p⟩ := h
  refine ⟨ι, env, S, s, er, (Post.bind (Rel' := Rp X.K) p).mono ?_⟩
  rintro x H1 ⟨ι1, dx, S1, e1, s1, r1, p1⟩
  refine ⟨rfl, ?_⟩
  rw [r1.isBl]; exact p1.ret s1 (.bl _)
theorem e_notB {b : Bool} {j pos'} (ha : EE X W a da) : EE X W (.Compare a [.IsNot] [.Constant (.bool b) j pos'] pos) (dNotB b da) := PE.imp (pe_cmpR (op_notB b) ha pe_bl (nomark _)) fun σ H Q h => by
  obtain ⟨ι, env, S, s, er, p⟩ := h
  refine ⟨ι, env, S, s, er, (Post.bind (Rel' := Rp X.K) p).mono ?_⟩
  rintro x H1 ⟨ι1, dx, S1, e1, s1, r1, p1⟩
  refine ⟨rfl, ?_⟩
  rw [r1.isBl]; exact p1.ret s1 (.bl _)
end
end
end Z
end

section
set_option Elab.async false
set_option linter.all false
set_option maxRecDepth 100000
set_option maxHeartbeats 1000000
namespace Z
noncomputable section
open PySem PySem.Spec PyProof.Rows L2

/-! ### bools -/
def asB (x : D) (S : Sto) : R Bool := match x with
  | .bl b => .ok b S
  | _ => .bad
def dAnd (a b : Den) : Den := fun env S => (a env S).bind fun x S1 => (asB x S1).bind fun c S1 => if c then b env S1 else .ok (.bl false) S1
def dOr (a b : Den) : Den := fun env S => (a env S).bind fun x S1 => (asB x S1).bind fun c S1 => if c then .ok (.bl true) S1 else b env S1
def dNot (a : Den) : Den := fun env S => (a env S).bind fun x S1 => (asB x S1).bind fun c S1 => .ok (.bl (!c)) S1
def tB' (a : Den) : DenT := fun env S => (a env S).bind asB
def tAnd' (a b : DenT) : DenT := fun env S => (a env S).bind fun c S1 => if c then b env S1 else .ok false S1
def tOr' (a b : DenT) : DenT := fun env S => (a env S).bind fun c S1 => if c then .ok true S1 else b env S1
def tNot' (a : DenT) : DenT := fun env S => (a env S).bind fun c S1 => .ok (!c) S1
def dIf (t : DenT) (a b : Den) : Den := fun env S => (t env S).bind fun c S1 => if c then a env S1 else b env S1
section
variable {X : Cx} {W : WX} {a b c : Expr} {rest : List Expr} {da db dc : Den} {ta tb : DenT} {pos : Pos}
theorem Post.asB {K : PySem.W.Frag} {mg : Str → Option Value} {σ : L2.St} {H : Hp} {ι : Em} {S : Sto} {x : D} {v : V} {α β : Type} {Rel : Hp → Em → β → α → Prop} {k : Bool → Sto → R α} {Q : β → Hp → Prop} (p : Post K mg Rel W σ ι H ((Z.asB x S).bind k) Q) (r : Rp K H ι v x) :
    ∃ c, x = .bl c ∧ v = .bl c ∧ Post K mg Rel W σ ι H (k c S) Q := by
  cases x with
  | bl c => cases r; exact ⟨c, rfl, rfl, p⟩
  | _ => exact p.elim
theorem e_one {op} (h : EE X W a da) : EE X W (.BoolOp op [a] pos) da := pe_one h
theorem e_and (ha : EE X W a da) (hb : EE X W (.BoolOp .And (b :: rest) pos) db) : EE X W (.BoolOp .And (a :: b :: rest) pos) (dAnd da db) := PE.imp (pe_and ha hb) fun σ H Q h => by
  obtain ⟨ι, env, S, s, er, p⟩ := h
  refine ⟨ι, env, S, s, er, (Post.bind (Rel' := Rp X.K) p).mono ?_⟩
  rintro x H1 ⟨ι1, dx, S1, e1, s1, r1, p1⟩
  obtain ⟨c, rfl, rfl, p2⟩ := p1.asB r1
  refine ⟨c, rfl, ?_⟩
  cases c with
  | true => rw [if_pos rfl]; exact ⟨ι1, env, S1, s1, er.ext e1, p2⟩
  | false => rw [if_neg Bool.false_ne_true]; exact p2.ret s1 (.bl _)
theorem e_or (ha : EE X W a da) (hb : EE X W (.BoolOp .Or (b :: rest) pos) db) : EE X W (.BoolOp .Or (a :: b :: rest) pos) (dOr da db) := PE.imp (pe_or ha hb) fun σ H Q h => by
  obtain ⟨ι, env, S, s, er, p⟩ := h
  refine ⟨ι, env, S, s, er, (Post.bind (Rel' := Rp X.K) p).mono ?_⟩
  rintro x H1 ⟨ι1, dx, S1, e1, s1, r1, p1⟩
  obtain ⟨c, rfl, rfl, p2⟩ := p1.asB r1
  refine ⟨c, rfl, ?_⟩
  cases c with
  | false => rw [if_neg Bool.false_ne_true]; exact ⟨ι1, env, S1, s1, er.ext e1, p2⟩
  | true => rw [if_pos rfl]; exact p2.ret s1 (.bl _)
theorem e_not (ha : EE X W a da) : EE X W (.UnaryOp .Not a pos) (dNot da) := PE.imp (pe_not ha) fun σ H Q h => by
  obtain ⟨ι, env, S, s, er, p⟩ := h
  refine ⟨ι, env, S, s, er, (Post.bind (Rel' := Rp X.K) p).mono ?_⟩
  rintro x H1 ⟨ι1, dx, S1, e1, s1, r1, p1⟩
  obtain ⟨c, rfl, rfl, p2⟩ := p1.asB r1
  exact ⟨c, rfl, p2.ret s1 (.bl _)⟩
/-- a bool's value as a test -/
theorem t_B (h : EE X W a da) (he : ∀ whole, isTrue a X.env whole = (do let v ← whole; standAt a.pos; holding [v] (truthy v)) := by intro _; rfl) : TT' X W a (tB' da) := PT.imp (pt_val h he) fun σ H Q h => by
  obtain ⟨ι, env, S, s, er, p⟩ := h
  refine ⟨ι, env, S, s, er, (Post.bind (Rel' := Rp X.K) p).mono ?_⟩
  rintro x H1 ⟨ι1, dx, S1, e1, s1, r1, p1⟩
  cases dx with
  | bl c => cases r1; exact ⟨c, rfl, p1.ret s1 rfl⟩
  | _ => exact p1.elim
abbrev WW (X : Cx) (W : WX) (e : Expr) (d : DenT) : Prop := PW X e (rdT X.K X.mg W d)
theorem PW.imp {X : Cx} {e : Expr} {t t' : TT} (h : PW X e t) (f : ∀ σ H Q, t' σ H Q → t σ H Q) : PW X e t' := ⟨fun wh pins s σ H Q I q => h.run wh pins s σ H Q I (f σ H Q q)⟩
theorem w_and1 (ha : TT' X W a ta) : WW X W (.BoolOp .And [a] pos) ta := pw_and1 ha
theorem w_or1 (ha : TT' X W a ta) : WW X W (.BoolOp .Or [a] pos) ta := pw_or1 ha
theorem w_and (ha : TT' X W a ta) (hb : WW X W (.BoolOp .And (b :: rest) pos) tb) : WW X W (.BoolOp .And (a :: b :: rest) pos) (tAnd' ta tb) := PW.imp (pw_and ha hb) fun σ H Q h => by
  obtain ⟨ι, env, S, s, er, p⟩ := h
  refine ⟨ι, env, S, s, er, (Post.bind (Rel' := fun _ _ b c => b = c) p).mono ?_⟩
  rintro x H1 ⟨ι1, dx, S1, e1, s1, rfl, p1⟩
  cases x with
  | true => rw [if_pos rfl]; exact ⟨ι1, env, S1, s1, er.ext e1, p1⟩
  | false => rw [if_neg Bool.false_ne_true]; exact p1.ret s1 rfl
theorem w_or (ha : TT' X W a ta) (hb : WW X W (.BoolOp .Or (b :: rest) pos) tb) : WW X W (.BoolOp .Or (a :: b :: rest) pos) (tOr' ta tb) := PW.imp (pw_or ha hb) fun σ H Q h => by
  obtain ⟨ι, env, S, s, er, p⟩ := h
  refine ⟨ι, env, S, s, er, (Post.bind (Rel' := fun _ _ b c => b = c) p).mono ?_⟩
  rintro x H1 ⟨ι1, dx, S1, e1, s1, rfl, p1⟩
  cases x with
  | false => rw [if_neg Bool.false_ne_true]; exact ⟨ι1, env, S1, s1, er.ext e1, p1⟩
  | true => rw [if_pos rfl]; exact p1.ret s1 rfl
theorem t_not (ha : TT' X W a ta) : TT' X W (.UnaryOp .Not a pos) (tNot' ta) := PT.imp (pt_not ha) fun σ H Q h => by
  obtain ⟨ι, env, S, s, er, p⟩ := h
  refine ⟨ι, env, S, s, er, (Post.bind (Rel' := fun _ _ b c => b = c) p).mono ?_⟩
  rintro x H1 ⟨ι1, dx, S1, e1, s1, rfl, p1⟩
  exact p1.ret s1 rfl
theorem e_if (hc : TT' X W c ta) (ha : EE X W a da) (hb : EE X W b db) : EE X W (.IfExp c a b pos) (dIf ta da db) := PE.imp (pe_ifExp hc ha hb) fun σ H Q h => by
  obtain ⟨ι, env, S, s, er, p⟩ := h
  refine ⟨ι, env, S, s, er, (Post.bind (Rel' := fun _ _ b c => b = c) p).mono ?_⟩
  rintro x H1 ⟨ι1, dx, S1, e1, s1, rfl, p1⟩
  cases x with
  | true => rw [if_pos rfl]; exact ⟨ι1, env, S1, s1, er.ext e1, p1⟩
  | false => rw [if_neg Bool.false_ne_true]; exact ⟨ι1, env, S1, s1, er.ext e1, p1⟩
end

/-! ### arguments, tuples, lists -/
def aNil : DenA := fun _ S => .ok [] S
def aCons (a : Den) (r : DenA) : DenA := fun env S => (a env S).bind fun x S1 => (r env S1).bind fun xs S2 => .ok (x :: xs) S2
def dTup (a : DenA) : Den := fun env S => (a env S).bind fun xs S1 => mkT xs S1
def dLst (c : Bool) (a : DenA) : Den := fun env S => (a env S).bind fun xs S1 => mkL c xs S1
section
variable {X : Cx} {W : WX} {e : Expr} {es : List Expr} {d : Den} {da : DenA} {pos : Pos}
theorem a_nil : AA X W [] aNil := PA.imp pa_nil fun σ H Q h => by
  obtain ⟨ι, env, S, s, er, p⟩ := h
  exact p.ret s .nil
theorem a_cons (h : EE X W e d) (hr : AA X W es da) (hs : starEach (e :: es) X.env = (false, eval e X.env) :: starEach es X.env := by rfl) : AA X W (e :: es) (aCons d da) := PA.imp (pa_cons h hr hs) fun σ H Q h => by
  obtain ⟨ι, env, S, s, er, p⟩ := h
  refine ⟨ι, env, S, s, er, (Post.bind (Rel' := Rp X.K) p).mono ?_⟩
  rintro x H1 ⟨ι1, dx, S1, e1, s1, r1, p1⟩
  refine ⟨ι1, env, S1, s1, er.ext e1, (Post.bind (Rel' := Rps X.K) p1).mono ?_⟩
  rintro xs H2 ⟨ι2, dxs, S2, e2, s2, r2, p2⟩
  exact p2.ret s2 (.cons (r1.ext e2) r2)
theorem e_tup {k : Nat} (h : AA X W es da) : EE X W (.Tuple es k pos) (dTup da) := PE.imp (pe_tup h) fun σ H Q h => by
  obtain ⟨ι, env, S, s, er, p⟩ := h
  refine ⟨ι, env, S, s, er, (Post.bind (Rel' := Rps X.K) p).mono ?_⟩
  rintro xs H1 ⟨ι1, dxs, S1, e1, s1, r1, p1⟩
  exact p1.mkT s1 r1
theorem e_lst (c : Bool) (h : AA X W es da) : EE X W (.List es pos) (dLst c da) := PE.imp (pe_lst h) fun σ H Q h => by
  obtain ⟨ι, env, S, s, er, p⟩ := h
  refine ⟨ι, env, S, s, er, (Post.bind (Rel' := Rps X.K) p).mono ?_⟩
  rintro xs H1 ⟨ι1, dxs, S1, e1, s1, r1, p1⟩
  exact p1.mkL s1 r1
end

/-! ### subscripts -/
def fIx (x y : D) (S : Sto) : R D := match y with
  | .int i => match seqOf S x with
    | some xs => match atI xs i with
      | some v => .ok v S
      | none => .bad
    | none => match x with
      | .str z => if Fit z.length then match atI z.cps.toList i with
        | some c => .ok (.str ⟨#[c]⟩) S
        | none => .bad
        else .bad
      | _ => .bad
  | _ => .bad
theorem atI_rp {K : PySem.W.Frag} {H : Hp} {ι : Em} {vs : List V} {ds : List D} {i : Int} {d : D} (r : Rps K H ι vs ds) (e : atI ds i = some d) : ∃ v, atI vs i = some v ∧ Rp K H ι v d := by
  unfold atI at e ⊢
  rw [r.length]
  cases q : ixN ds.length i with
  | none => rw [q] at e; cases e
  | some j =>
    rw [q] at e
    obtain ⟨v, e1, r1⟩ := r.get (i := j) e
    exact ⟨v, e1, r1⟩
theorem sIx {K : PySem.W.Frag} : OpS K (rIx K) fIx := by
  intro mg W σ ι H S x y dx dy Q s rx ry p
  unfold fIx at p
  split at p
  · rename_i i
    cases ry
    split at p
    · rename_i xs e
      split at p
      · rename_i v e2
        obtain ⟨a, vs, rfl, hs, r⟩ := seq_inv s rx e
        obtain ⟨u, e3, r3⟩ := atI_rp r e2
        rcases hs with hs | hs
        · exact .inl ⟨a, vs, i, u, rfl, rfl, hs, e3, p.ret s r3⟩
        · exact .inr (.inl ⟨a, vs, i, u, rfl, rfl, hs, e3, p.ret s r3⟩)
      · exact p.elim
    · cases dx with
      | str z =>
        cases rx
        simp only at p
        split at p
        · rename_i hl
          split at p
          · rename_i c e2
            exact .inr (.inr ⟨z, i, c, rfl, rfl, hl, e2, p.ret s (.str _)⟩)
          · exact p.elim
        · exact p.elim
      | _ => exact p.elim
  · exact p.elim
/-- xs[lo:hi] of a list; of a text; of a tuple -/
def cutD {α : Type} (xs : List α) (lo hi : Option Int) : List α := (xs.drop (HT.sIx xs.length 0 lo)).take (HT.sIx xs.length xs.length hi - HT.sIx xs.length 0 lo)
abbrev DenO := Env → Sto → R (Option Int)
def rdO (K : PySem.W.Frag) (mg : Str → Option Value) (W : WX) (d : DenO) : TO := fun σ H Q => ∃ ι env S, Sr K H ι S ∧ Er K H ι σ env ∧ Post K mg (fun _ _ b c => b = c) W σ ι H (d env S) Q
def oNone : DenO := fun _ S => .ok none S
def asI (x : D) (S : Sto) : R Int := match x with
  | .int i => .ok i S
  | _ => .bad
def oSome (d : Den) : DenO := fun env S => (d env S).bind fun x S1 => (asI x S1).bind fun i S1 => .ok (some i) S1
def fSl (c : Bool) (x : D) (lo hi : Option Int) (S : Sto) : R D := match x with
  | .tup xs => if HT.sIx xs.length 0 lo = 0 ∧ HT.sIx xs.length xs.length hi = xs.length then .ok (.tup xs) S else .ok (.tup (cutD xs lo hi)) S
  | .str z => if Fit z.length then .ok (.str (cutS z lo hi)) S else .bad
  | _ => match lstOf S x with
    | some xs => mkL c (cutD xs lo hi) S
    | none => .bad
def dSl (c : Bool) (a : Den) (lo hi : DenO) : Den := fun env S => (a env S).bind fun x S1 => (lo env S1).bind fun l S2 => (hi env S2).bind fun h S3 => fSl c x l h S3
section
variable {X : Cx} {W : WX} {e : Expr} {d : Den} {lo hi : Option Expr} {tl th : DenO} {pos p2 : Pos}
theorem PO.imp {X : Cx} {e : Option Expr} {t t' : TO} (h : PO X e t) (f : ∀ σ H Q, t' σ H Q → t σ H Q) : PO X e t' := ⟨fun pins s σ H Q I q => h.run pins s σ H Q I (f σ H Q q)⟩
abbrev OO (X : Cx) (W : WX) (e : Option Expr) (d : DenO) : Prop := PO X e (rdO X.K X.mg W d)
theorem o_none : OO X W none oNone := PO.imp po_none fun σ H Q h => by
  obtain ⟨ι, env, S, s, er, p⟩ := h
  exact p.ret s rfl
theorem o_some (h : EE X W e d) : OO X W (some e) (oSome d) := PO.imp (po_some h) fun σ H Q h => by
  obtain ⟨ι, env, S, s, er, p⟩ := h
  refine ⟨ι, env, S, s, er, (Post.bind (Rel' := Rp X.K) p).mono ?_⟩
  rintro x H1 ⟨ι1, dx, S1, e1, s1, r1, p1⟩
  cases dx with
  | int i => cases r1; exact ⟨i, rfl, p1.ret s1 rfl⟩
  | _ => exact p1.elim
def rSlZ (K : PySem.W.Frag) : V → Option Int → Option Int → Hp → VK → Prop := fun x lo hi H Q => rSlL K x lo hi H Q ∨ rSlS x lo hi H Q ∨ rSlA K x lo hi H Q
theorem sl_Z : SlR X (rSlZ X.K) := sl_list.or (sl_str.or sl_tupA)
theorem cutD_rp {K : PySem.W.Frag} {H : Hp} {ι : Em} {vs : List V} {ds : List D} (r : Rps K H ι vs ds) (l h : Option Int) : Rps K H ι (cutV vs l h) (cutD ds l h) := by
  unfold cutV cutD
  rw [r.length]
  exact (r.drop _).take _
theorem cutD_len {α : Type} (xs : List α) (lo hi : Option Int) : (cutD xs lo hi).length ≤ xs.length := by
  unfold cutD; rw [List.length_take, List.length_drop]; omega
theorem e_sl (c : Bool) (he : EE X W e d) (hl : OO X W lo tl) (hu : OO X W hi th) : EE X W (.Subscript e (.Slice lo hi none p2) pos) (dSl c d tl th) := PE.imp (pe_slice sl_Z he hl hu) fun σ H Q h => by
  obtain ⟨ι, env, S, s, er, p⟩ := h
  refine ⟨ι, env, S, s, er, (Post.bind (Rel' := Rp X.K) p).mono ?_⟩
  rintro x H1 ⟨ι1, dx, S1, e1, s1, r1, p1⟩
  refine ⟨ι1, env, S1, s1, er.ext e1, (Post.bind (Rel' := fun _ _ b c => b = c) p1).mono ?_⟩
  rintro l H2 ⟨ι2, _, S2, e2, s2, rfl, p2⟩
  refine ⟨ι2, env, S2, s2, (er.ext e1).ext e2, (Post.bind (Rel' := fun _ _ b c => b = c) p2).mono ?_⟩
  rintro h H3 ⟨ι3, _, S3, e3, s3, rfl, p3⟩
  have rx := (r1.ext e2).ext e3
  have lst : ∀ xs, lstOf S3 dx = some xs → Post X.K X.mg (Rp X.K) W σ ι3 H3 (mkL c (cutD xs l h) S3) Q → rSlZ X.K x l h H3 Q := fun xs e4 p4 => by
    obtain ⟨a, vs, rfl, hs, r⟩ := lst_inv s3 rx e4
    exact .inl ⟨a, vs, rfl, hs, (p4.mkL s3 (cutD_rp r l h)).2⟩
  cases dx with
  | tup xs =>
    obtain ⟨a, vs, rfl, hs, r⟩ := rx.tup_inv
    refine .inr (.inr ⟨a, vs, rfl, hs, ?_, ?_⟩)
    · intro hw
      simp only [fSl] at p3
      rw [r.length] at hw
      rw [if_pos hw] at p3
      exact p3.ret s3 rx
    · intro hw q hq
      simp only [fSl] at p3
      rw [r.length] at hw
      rw [if_neg hw] at p3
      exact p3 _ _ _ (Ext.new hq) (s3.new hq) (.tup (s3.out hq) upd_same ((cutD_rp r l h).ext (Ext.new hq)))
  | str z =>
    cases rx
    simp only [fSl] at p3
    split at p3
    · rename_i hz; exact .inr (.inl ⟨z, rfl, hz, p3.ret s3 (.str _)⟩)
    · exact p3.elim
  | lst xs => simp only [fSl, lstOf] at p3; exact lst xs rfl p3
  | frz xs => simp only [fSl, lstOf] at p3; exact lst xs rfl p3
  | ref n =>
    simp only [fSl] at p3
    split at p3
    · rename_i xs e4; exact lst xs e4 p3
    · exact p3.elim
  | _ => exact p3.elim
end
end
end Z
end

section
set_option Elab.async false
set_option linter.all false
set_option maxRecDepth 100000
set_option maxHeartbeats 1000000
namespace Z
noncomputable section
open PySem PySem.Spec PyProof.Rows L2

/-! ### ==, in -/
mutual
def pyD : D → Option PyData
  | .non => some .none
  | .bl b => some (.bool b)
  | .int i => some (.int i)
  | .str x => some (.str x)
  | .tup xs => (pyA xs).map .tuple
  | .lst xs => (pyA xs).map .list
  | .frz xs => (pyA xs).map .list
  | .ref _ => none
  | .err _ _ _ _ => none
def pyA : List D → Option (List PyData)
  | [] => some []
  | x :: xs => (pyD x).bind fun p => (pyA xs).map fun ps => p :: ps
end
def pyS (S : Sto) (x : D) : Option PyData := match x with
  | .ref n => match S[n]? with
    | some (.lst xs) => (pyA xs).map .list
    | none => none
  | x => pyD x
section
variable {K : PySem.W.Frag} {H : Hp} {ι : Em}
mutual
theorem dp_of : ∀ {d : D} {v : V} {p : PyData}, Rp K H ι v d → pyD d = some p → Dp K H v p
  | .non, _, _, r, e => by cases r; cases e; exact .non
  | .bl b, _, _, r, e => by cases r; cases e; exact .bl b
  | .int b, _, _, r, e => by cases r; cases e; exact .int b
  | .str b, _, _, r, e => by cases r; cases e; exact .str b
  | .tup xs, _, _, r, e => by
    obtain ⟨a, vs, rfl, hs, rs⟩ := r.tup_inv
    rw [pyD] at e
    cases q : pyA xs with
    | none => rw [q] at e; cases e
    | some ps => rw [q] at e; cases e; exact .tup hs (dps_of rs q)
  | .lst xs, _, _, r, e => by
    obtain ⟨a, vs, rfl, _, hs, rs⟩ := r.lst_inv
    rw [pyD] at e
    cases q : pyA xs with
    | none => rw [q] at e; cases e
    | some ps => rw [q] at e; cases e; exact .lst (.of hs) (dps_of rs q)
  | .frz xs, _, _, r, e => by
    obtain ⟨a, vs, rfl, hs, rs⟩ := r.frz_inv
    rw [pyD] at e
    cases q : pyA xs with
    | none => rw [q] at e; cases e
    | some ps => rw [q] at e; cases e; exact .lst hs (dps_of rs q)
  | .ref _, _, _, _, e => by rw [pyD] at e; cases e
  | .err _ _ _ _, _, _, _, e => by rw [pyD] at e; cases e
theorem dps_of : ∀ {ds : List D} {vs : List V} {ps : List PyData}, Rps K H ι vs ds → pyA ds = some ps → DpAll K H vs ps
  | [], _, _, r, e => by cases r; cases e; exact .nil
  | d :: ds, _, _, r, e => by
    cases r with
    | cons r rs =>
      rw [pyA] at e
      cases q : pyD d with
      | none => rw [q] at e; cases e
      | some p =>
        rw [q] at e
        cases q2 : pyA ds with
        | none => rw [q2] at e; cases e
        | some ps => rw [q2] at e; cases e; exact .cons (dp_of r q) (dps_of rs q2)
end
theorem dpS_of {S : Sto} (s : Sr K H ι S) {d : D} {v : V} {p : PyData} (r : Rp K H ι v d) (e : pyS S d = some p) : Dp K H v p := by
  cases d with
  | ref n =>
    obtain ⟨a, rfl, e2⟩ := r.ref_inv
    simp only [pyS] at e
    split at e
    · rename_i xs e3
      obtain ⟨vs, h1, h2⟩ := s.list e2 e3
      cases q : pyA xs with
      | none => rw [q] at e; cases e
      | some ps => rw [q] at e; cases e; exact .lst (.of h1) (dps_of h2 q)
    · cases e
  | _ => exact dp_of r e
end
def eqN (neg : Bool) (x y : D) (S : Sto) : R D := match pyS S x, pyS S y with
  | some p, some q => if SeqAt.shaped p = true ∧ SeqAt.shaped q = true then .ok (.bl (if neg then !(PyData.eqv p q) else PyData.eqv p q)) S else .bad
  | _, _ => .bad
/-- == (neg: !=) -/
def fEq (neg : Bool) (x y : D) (S : Sto) : R D := match x with
  | .int i => match y with
    | .int j => .ok (.bl (if neg then !decide (i = j) else decide (i = j))) S
    | .non => .ok (.bl neg) S
    | .str _ => .ok (.bl neg) S
    | _ => eqN neg x y S
  | .str i => match y with
    | .str j => .ok (.bl (if neg then !decide (i = j) else decide (i = j))) S
    | .non => .ok (.bl neg) S
    | .int _ => .ok (.bl neg) S
    | .bl _ => .ok (.bl neg) S
    | _ => eqN neg x y S
  | .bl i => match y with
    | .bl j => .ok (.bl (if neg then !decide (i = j) else decide (i = j))) S
    | .non => .ok (.bl neg) S
    | .str _ => .ok (.bl neg) S
    | _ => eqN neg x y S
  | _ => eqN neg x y S
section
variable {K : PySem.W.Frag} {X : Cx}
def rEqZ (K : PySem.W.Frag) : R2 := fun x y H Q => rEq x y H Q ∨ rEqD K x y H Q
def rNeZ (K : PySem.W.Frag) : R2 := fun x y H Q => rNe x y H Q ∨ rNeD K x y H Q
theorem oEq (hu : X.A.units + 64 < cLine) : OpR X (compareOp .Eq) (rEqZ X.K) := op_eq.or (op_eqD hu)
theorem oNe (hu : X.A.units + 64 < cLine) : OpR X (compareOp .NotEq) (rNeZ X.K) := op_ne.or (op_neD hu)
theorem eqN_ok {mg : Str → Option Value} {W : WX} {σ : L2.St} {ι : Em} {H : Hp} {S : Sto} {x y : V} {dx dy : D} {Q : VK} {neg : Bool} (s : Sr K H ι S) (rx : Rp K H ι x dx) (ry : Rp K H ι y dy) (p : Post K mg (Rp K) W σ ι H (eqN neg dx dy S) Q) :
    ∃ d e, Dp K H x d ∧ Dp K H y e ∧ SeqAt.shaped d = true ∧ SeqAt.shaped e = true ∧ Q (.bl (if neg then !(PyData.eqv d e) else PyData.eqv d e)) H := by
  unfold eqN at p
  split at p
  · rename_i d e h1 h2
    split at p
    · rename_i hs
      exact ⟨d, e, dpS_of s rx h1, dpS_of s ry h2, hs.1, hs.2, p.ret s (.bl _)⟩
    · exact p.elim
  · exact p.elim
theorem fEq_ok {mg : Str → Option Value} {W : WX} {σ : L2.St} {ι : Em} {H : Hp} {S : Sto} {x y : V} {dx dy : D} {Q : VK} {neg : Bool} (s : Sr K H ι S) (rx : Rp K H ι x dx) (ry : Rp K H ι y dy) (p : Post K mg (Rp K) W σ ι H (fEq neg dx dy S) Q) :
    (scal x y = true ∧ Q (.bl (if neg then !decide (x = y) else decide (x = y))) H) ∨ ∃ d e, Dp K H x d ∧ Dp K H y e ∧ SeqAt.shaped d = true ∧ SeqAt.shaped e = true ∧ Q (.bl (if neg then !(PyData.eqv d e) else PyData.eqv d e)) H := by
  have hF : ∀ (a b : V), a ≠ b → (if neg = true then !decide (a = b) else decide (a = b)) = neg := fun a b h => by
    rw [decide_eq_false h]; cases neg <;> rfl
  have fin : ∀ (a b : V), scal a b = true → a ≠ b → x = a → y = b → Post K mg (Rp K) W σ ι H (.ok (.bl neg) S) Q → (scal x y = true ∧ Q (.bl (if neg then !decide (x = y) else decide (x = y))) H) := fun a b h1 h2 e1 e2 p => by
    subst e1; subst e2
    exact ⟨h1, by rw [hF _ _ h2]; exact p.ret s (.bl _)⟩
  cases dx with
  | int i =>
    cases rx
    cases dy with
    | int j => cases ry; exact .inl ⟨rfl, by have q := p.ret s (.bl _); simpa using q⟩
    | non => cases ry; exact .inl (fin _ _ rfl (by simp) rfl rfl p)
    | str j => cases ry; exact .inl (fin _ _ rfl (by simp) rfl rfl p)
    | _ => exact .inr (eqN_ok s (.int i) ry p)
  | str i =>
    cases rx
    cases dy with
    | str j => cases ry; exact .inl ⟨rfl, by have q := p.ret s (.bl _); simpa using q⟩
    | non => cases ry; exact .inl (fin _ _ rfl (by simp) rfl rfl p)
    | int j => cases ry; exact .inl (fin _ _ rfl (by simp) rfl rfl p)
    | bl j => cases ry; exact .inl (fin _ _ rfl (by simp) rfl rfl p)
    | _ => exact .inr (eqN_ok s (.str i) ry p)
  | bl i =>
    cases rx
    cases dy with
    | bl j => cases ry; exact .inl ⟨rfl, by have q := p.ret s (.bl _); simpa using q⟩
    | non => cases ry; exact .inl (fin _ _ rfl (by simp) rfl rfl p)
    | str j => cases ry; exact .inl (fin _ _ rfl (by simp) rfl rfl p)
    | _ => exact .inr (eqN_ok s (.bl i) ry p)
  | _ => exact .inr (eqN_ok s rx ry p)
theorem sEq : OpS K (rEqZ K) (fEq false) := fun mg W σ ι H S x y dx dy Q s rx ry p => fEq_ok s rx ry p
theorem sNe : OpS K (rNeZ K) (fEq true) := fun mg W σ ι H S x y dx dy Q s rx ry p => fEq_ok s rx ry p
/-- flat data as a value -/
def flatD : D → Option V
  | .non => some .non
  | .bl b => some (.bl b)
  | .int i => some (.int i)
  | .str x => some (.str x)
  | _ => none
def flatA : List D → Option (List V)
  | [] => some []
  | x :: xs => (flatD x).bind fun p => (flatA xs).map fun ps => p :: ps
theorem flatD_of {H : Hp} {ι : Em} {v w : V} {d : D} (r : Rp K H ι v d) (e : flatD d = some w) : v = w ∧ flatV v = true := by
  cases r <;> simp [flatD] at e <;> subst e <;> exact ⟨rfl, rfl⟩
theorem flatA_of {H : Hp} {ι : Em} : ∀ {ds : List D} {vs ws : List V}, Rps K H ι vs ds → flatA ds = some ws → vs = ws ∧ vs.all flatV = true
  | [], _, _, r, e => by cases r; cases e; exact ⟨rfl, rfl⟩
  | d :: ds, _, _, r, e => by
    cases r with
    | cons r rs =>
      rw [flatA] at e
      cases q : flatD d with
      | none => rw [q] at e; cases e
      | some p =>
        rw [q] at e
        cases q2 : flatA ds with
        | none => rw [q2] at e; cases e
        | some ps =>
          rw [q2] at e; cases e
          obtain ⟨h1, h2⟩ := flatD_of r q
          obtain ⟨h3, h4⟩ := flatA_of rs q2
          subst h1; subst h3
          exact ⟨rfl, by rw [List.all_cons, h2, h4]; rfl⟩
/-- x in a list or tuple, flat items -/
def fIn (neg : Bool) (x y : D) (S : Sto) : R D := match seqOf S y, flatD x with
  | some ys, some v => match flatA ys with
    | some vs => .ok (.bl (if neg then !inV v vs else inV v vs)) S
    | none => .bad
  | _, _ => .bad
theorem sIn {neg : Bool} : OpS K (rIn K neg) (fIn neg) := by
  intro mg W σ ι H S x y dx dy Q s rx ry p
  unfold fIn at p
  split at p
  · rename_i ys v e1 e2
    split at p
    · rename_i vs e3
      obtain ⟨a, us, rfl, hs, rs⟩ := seq_inv s ry e1
      obtain ⟨rfl, f1⟩ := flatD_of rx e2
      obtain ⟨rfl, f2⟩ := flatA_of rs e3
      exact ⟨a, us, rfl, hs, f1, f2, p.ret s (.bl _)⟩
    · exact p.elim
  · exact p.elim
end

/-! ### isinstance -/
inductive Ty where
  | int | tup | str | bool | list
def Ty.nm : Ty → String
  | .int => "int" | .tup => "tuple" | .str => "str" | .bool => "bool" | .list => "list"
def isTy : Ty → D → Bool
  | .int, .int _ => true
  | .int, .bl _ => true
  | .bool, .bl _ => true
  | .str, .str _ => true
  | .tup, .tup _ => true
  | .list, .lst _ => true
  | .list, .frz _ => true
  | .list, .ref _ => true
  | _, _ => false
def refOk (S : Sto) : D → Bool
  | .ref n => match S[n]? with
    | some (.lst _) => true
    | none => false
  | .err _ _ _ _ => false
  | _ => true
def fIsi (t : Ty) (x : D) (S : Sto) : R D := if refOk S x = true then .ok (.bl (isTy t x)) S else .bad
def dIsi (t : Ty) (a : Den) : Den := fun env S => (a env S).bind fun x S1 => fIsi t x S1
section
variable {X : Cx} {W : WX} {a : Expr} {da : Den} {p q pos : Pos}
theorem StT.ty {K : PySem.W.Frag} {H : Hp} {a : Addr} {xs : List V} (h : StT K a xs) : TyX K H (.ref a) (.type "tuple") := by
  obtain ⟨o, its, n, e, c, _⟩ := h; exact .kTuple e c
theorem StL.ty {K : PySem.W.Frag} {H : Hp} {a : Addr} {xs : List V} (h : StL K a xs) : TyX K H (.ref a) (.type "list") := by
  obtain ⟨o, its, n, e, c, _⟩ := h; exact .kList e c
theorem isi_ok {K : PySem.W.Frag} {H : Hp} {ι : Em} {S : Sto} {v : V} {d : D} {t : Ty} (s : Sr K H ι S) (r : Rp K H ι v d) (hr : refOk S d = true) : ∃ tv, TyX K H v tv ∧ PySem.W.kitOne K tv (.type t.nm) = some (isTy t d) := by
  cases r with
  | non => exact ⟨_, .base .non, by cases t <;> exact kit_ty (by decide +kernel)⟩
  | bl b => exact ⟨_, .base (.bl b), by cases t <;> exact kit_ty (by simp only [isTy]; decide +kernel)⟩
  | int b => exact ⟨_, .base (.int b), by cases t <;> exact kit_ty (by simp only [isTy]; decide +kernel)⟩
  | str b => exact ⟨_, .base (.str b), by cases t <;> exact kit_ty (by simp only [isTy]; decide +kernel)⟩
  | tup _ h2 _ => exact ⟨_, .base (.tup h2), by cases t <;> exact kit_ty (by simp only [isTy]; decide +kernel)⟩
  | tupK h _ => exact ⟨_, h.ty, by cases t <;> exact kit_ty (by simp only [isTy]; decide +kernel)⟩
  | lst _ h2 _ => exact ⟨_, .base (.lst h2), by cases t <;> exact kit_ty (by simp only [isTy]; decide +kernel)⟩
  | frz _ h2 _ => exact ⟨_, .base (.frz h2), by cases t <;> exact kit_ty (by simp only [isTy]; decide +kernel)⟩
  | frzK h _ => exact ⟨_, h.ty, by cases t <;> exact kit_ty (by simp only [isTy]; decide +kernel)⟩
  | ref h =>
    simp only [refOk] at hr
    split at hr
    · rename_i xs e
      obtain ⟨vs, h1, _⟩ := s.list h e
      exact ⟨_, .base (.lst h1), by cases t <;> exact kit_ty (by simp only [isTy]; decide +kernel)⟩
    · cases hr
  | err _ _ _ => cases hr
theorem e_isi (t : Ty) {x : Str} (hx : x = Str.ofString t.nm) (hg : Gl X "isinstance") (hm : X.mg "isinstance" = none) (hg2 : Gl X x) (hm2 : X.mg x = none) (ha : EE X W a da)
    (hs : starEach [a, .Name x q] X.env = (false, eval a X.env) :: starEach [.Name x q] X.env := by rfl) (hs2 : starEach [.Name x q] X.env = (false, eval (.Name x q) X.env) :: starEach [] X.env := by rfl) (hpl : (backTo pos (starEach [.Name x q] X.env)).any (·.1) = false := by rfl) :
    EE X W (.Call (.Name "isinstance" p) [a, .Name x q] [] pos) (dIsi t da) := by
  have hv : bootBuiltins x = some (.type t.nm) := by subst hx; cases t <;> decide +kernel
  have hn : x ≠ "__name__" := by subst hx; cases t <;> decide
  have hd : (x == ("__debug__" : Str)) = false := by subst hx; cases t <;> decide
  refine PE.imp (pe_callB call_isi hg hm (by decide +kernel) (pa_cons ha (pa_cons (pe_bltn (v := .ty t.nm) hg2 hm2 hv rfl hn hd) pa_nil hs2) hs) (by decide) (by decide) hs hpl) fun σ H Q h => ?_
  obtain ⟨ι, env, S, s, er, p⟩ := h
  refine ⟨ι, env, S, s, er, (Post.bind (Rel' := Rp X.K) p).mono ?_⟩
  rintro x H1 ⟨ι1, dx, S1, e1, s1, r1, p1⟩
  unfold fIsi at p1
  split at p1
  · rename_i hr
    obtain ⟨tv, h1, h2⟩ := isi_ok (t := t) s1 r1 hr
    exact ⟨x, .ty t.nm, tv, .type t.nm, isTy t dx, rfl, .ty _, h1, h2, p1.ret s1 (.bl _)⟩
  · exact p1.elim
end

/-! ### built-in functions by their rules -/
def dCB (f : List D → Sto → R D) (a : DenA) : Den := fun env S => (a env S).bind fun xs S1 => f xs S1
def CbS (K : PySem.W.Frag) (r : List V → Hp → VK → Prop) (f : List D → Sto → R D) : Prop :=
  ∀ (mg : Str → Option Value) (W : WX) (σ : L2.St) (ι : Em) (H : Hp) (S : Sto) (xs : List V) (ds : List D) (Q : VK), Sr K H ι S → Rps K H ι xs ds → Post K mg (Rp K) W σ ι H (f ds S) Q → r xs H Q
section
variable {X : Cx} {W : WX} {x : Str} {p pos : Pos} {e : Expr} {es : List Expr} {da : DenA} {id T : String} {r : List V → Hp → VK → Prop} {f : List D → Sto → R D}
theorem rd_cb {K : PySem.W.Frag} {mg : Str → Option Value} {σ : L2.St} {H : Hp} {Q : VK} (hf : CbS K r f) (h : rd K mg W (dCB f da) σ H Q) : tCB r (rdA K mg W da) σ H Q := by
  obtain ⟨ι, env, S, s, er, p⟩ := h
  refine ⟨ι, env, S, s, er, (Post.bind (Rel' := Rps K) p).mono ?_⟩
  rintro x H1 ⟨ι1, dx, S1, e1, s1, r1, p1⟩
  exact hf mg W σ ι1 H1 S1 x dx Q s1 r1 p1
theorem e_cb (hc : CallR X (.builtin id) r) (hf : CbS X.K r f) (hg : Gl X x) (hm : X.mg x = none) (hv : bootBuiltins x = some (.builtin id)) (ha : AA X W (e :: es) da) (hn : x ≠ "__name__" := by decide) (hdb : (x == ("__debug__" : Str)) = false := by decide)
    (he : starEach (e :: es) X.env = (false, eval e X.env) :: starEach es X.env := by rfl) (hpl : (backTo pos (starEach es X.env)).any (·.1) = false := by rfl) : EE X W (.Call (.Name x p) (e :: es) [] pos) (dCB f da) := PE.imp (pe_callB hc hg hm hv ha hn hdb he hpl) fun _ _ _ h => rd_cb hf h
theorem e_ct (hc : CallR X (.type T) r) (hf : CbS X.K r f) (hg : Gl X x) (hm : X.mg x = none) (hv : bootBuiltins x = some (.type T)) (ha : AA X W (e :: es) da) (hn : x ≠ "__name__" := by decide) (hdb : (x == ("__debug__" : Str)) = false := by decide)
    (he : starEach (e :: es) X.env = (false, eval e X.env) :: starEach es X.env := by rfl) (hpl : (backTo pos (starEach es X.env)).any (·.1) = false := by rfl) : EE X W (.Call (.Name x p) (e :: es) [] pos) (dCB f da) := PE.imp (pe_callTy hc hg hm hv ha hn hdb he hpl) fun _ _ _ h => rd_cb hf h
theorem e_cf (hc : CallR X (.builtin id) r) (hf : CbS X.K r f) (hg : Gl X x) (hm : X.mg x = some (.builtin id)) (ha : AA X W (e :: es) da) (hdb : (x == ("__debug__" : Str)) = false := by decide)
    (he : starEach (e :: es) X.env = (false, eval e X.env) :: starEach es X.env := by rfl) (hpl : (backTo pos (starEach es X.env)).any (·.1) = false := by rfl) : EE X W (.Call (.Name x p) (e :: es) [] pos) (dCB f da) := PE.imp (pe_callBfun hc hg hm ha hdb he hpl) fun _ _ _ h => rd_cb hf h
end
def fLen (xs : List D) (S : Sto) : R D := match xs with
  | [x] => match seqOf S x with
    | some ys => .ok (.int ys.length) S
    | none => match x with
      | .str z => if Fit z.length then .ok (.int z.length) S else .bad
      | _ => .bad
  | _ => .bad
def fMax2 (xs : List D) (S : Sto) : R D := match xs with
  | [.int i, .int j] => .ok (.int (if j > i then j else i)) S
  | _ => .bad
def fMin2 (xs : List D) (S : Sto) : R D := match xs with
  | [.int i, .int j] => .ok (.int (if j < i then j else i)) S
  | _ => .bad
def fInt (xs : List D) (S : Sto) : R D := match xs with
  | [.int i] => .ok (.int i) S
  | [.bl b] => .ok (.int (if b then 1 else 0)) S
  | _ => .bad
def fAbs (xs : List D) (S : Sto) : R D := match xs with
  | [.int i] => .ok (.int (if i < 0 then -i else i)) S
  | _ => .bad
def fGcd (xs : List D) (S : Sto) : R D := match xs with
  | [.int i, .int j] => .ok (.int ((Nat.gcd i.natAbs j.natAbs : Nat) : Int)) S
  | _ => .bad
def fList (c : Bool) (xs : List D) (S : Sto) : R D := match xs with
  | [x] => match seqOf S x with
    | some ys => mkL c ys S
    | none => .bad
  | _ => .bad
def fTuple (xs : List D) (S : Sto) : R D := match xs with
  | [.tup ys] => .ok (.tup ys) S
  | [x] => match lstOf S x with
    | some ys => mkT ys S
    | none => .bad
  | _ => .bad
section
variable {K : PySem.W.Frag}
theorem rps1 {H : Hp} {ι : Em} {xs : List V} {d : D} (r : Rps K H ι xs [d]) : ∃ x, xs = [x] ∧ Rp K H ι x d := by
  cases r with | cons r rs => cases rs; exact ⟨_, rfl, r⟩
theorem rps2 {H : Hp} {ι : Em} {xs : List V} {d e : D} (r : Rps K H ι xs [d, e]) : ∃ x y, xs = [x, y] ∧ Rp K H ι x d ∧ Rp K H ι y e := by
  cases r with | cons r rs => cases rs with | cons r2 rs => cases rs; exact ⟨_, _, rfl, r, r2⟩
theorem rps3 {H : Hp} {ι : Em} {xs : List V} {d e f : D} (r : Rps K H ι xs [d, e, f]) : ∃ x y z, xs = [x, y, z] ∧ Rp K H ι x d ∧ Rp K H ι y e ∧ Rp K H ι z f := by
  cases r with | cons r rs => cases rs with | cons r2 rs => cases rs with | cons r3 rs => cases rs; exact ⟨_, _, _, rfl, r, r2, r3⟩
theorem sLen : CbS K (fun xs H Q => ∃ x n, xs = [x] ∧ LenV K x H n ∧ Q (.int n) H) fLen := by
  intro mg W σ ι H S xs ds Q s r p
  unfold fLen at p
  split at p
  · rename_i d
    obtain ⟨x, rfl, r0⟩ := rps1 r
    clear r
    split at p
    · rename_i ys e
      obtain ⟨a, vs, rfl, hs, rs⟩ := seq_inv s r0 e
      refine ⟨_, _, rfl, ?_, p.ret s (.int _)⟩
      rcases hs with hs | hs
      · exact .inl ⟨vs, hs, by rw [rs.length]⟩
      · exact .inr ⟨vs, hs, by rw [rs.length]⟩
    · cases d with
      | str z =>
        cases r0
        simp only at p
        split at p
        · rename_i hz; exact ⟨.str z, z.length, rfl, ⟨hz, rfl⟩, p.ret s (.int _)⟩
        · exact p.elim
      | _ => exact p.elim
  · exact p.elim
theorem sMax2 : CbS K (fun xs H Q => ∃ i j, xs = [.int i, .int j] ∧ Q (.int (if j > i then j else i)) H) fMax2 := by
  intro mg W σ ι H S xs ds Q s r p
  unfold fMax2 at p
  split at p
  · obtain ⟨x, y, rfl, r1, r2⟩ := rps2 r
    cases r1; cases r2; exact ⟨_, _, rfl, p.ret s (.int _)⟩
  · exact p.elim
theorem sMin2 : CbS K (fun xs H Q => ∃ i j, xs = [.int i, .int j] ∧ Q (.int (if j < i then j else i)) H) fMin2 := by
  intro mg W σ ι H S xs ds Q s r p
  unfold fMin2 at p
  split at p
  · obtain ⟨x, y, rfl, r1, r2⟩ := rps2 r
    cases r1; cases r2; exact ⟨_, _, rfl, p.ret s (.int _)⟩
  · exact p.elim
theorem sInt : CbS K (fun xs H Q => (∃ i, xs = [.int i] ∧ Q (.int i) H) ∨ ∃ k, xs = [.bl k] ∧ Q (.int (if k then 1 else 0)) H) fInt := by
  intro mg W σ ι H S xs ds Q s r p
  unfold fInt at p
  split at p
  · obtain ⟨x, rfl, r1⟩ := rps1 r
    cases r1; exact .inl ⟨_, rfl, p.ret s (.int _)⟩
  · obtain ⟨x, rfl, r1⟩ := rps1 r
    cases r1; exact .inr ⟨_, rfl, p.ret s (.int _)⟩
  · exact p.elim
theorem sAbs : CbS K (fun xs H Q => ∃ i, xs = [.int i] ∧ Q (.int (if i < 0 then -i else i)) H) fAbs := by
  intro mg W σ ι H S xs ds Q s r p
  unfold fAbs at p
  split at p
  · obtain ⟨x, rfl, r1⟩ := rps1 r
    cases r1; exact ⟨_, rfl, p.ret s (.int _)⟩
  · exact p.elim
theorem sGcd : CbS K rGcd fGcd := by
  intro mg W σ ι H S xs ds Q s r p
  unfold fGcd at p
  split at p
  · obtain ⟨x, y, rfl, r1, r2⟩ := rps2 r
    cases r1; cases r2; exact ⟨_, _, rfl, p.ret s (.int _)⟩
  · exact p.elim
theorem sList (c : Bool) : CbS K (fun xs H Q => ∃ p ys, xs = [.ref p] ∧ (SqL K H p ys ∨ SqT K H p ys) ∧ ∀ l, H l = none → Q (.ref l) (upd H l (.lst ys))) (fList c) := by
  intro mg W σ ι H S xs ds Q s r p
  unfold fList at p
  split at p
  · obtain ⟨x, rfl, r0⟩ := rps1 r
    clear r
    split at p
    · rename_i ys e
      obtain ⟨a, vs, rfl, hs, rs⟩ := seq_inv s r0 e
      exact ⟨a, vs, rfl, hs, (p.mkL s rs).2⟩
    · exact p.elim
  · exact p.elim
theorem sTuple : CbS K (fun xs H Q => ∃ p ys, xs = [.ref p] ∧ ((SqL K H p ys ∧ ∀ l, H l = none → Q (.ref l) (upd H l (.tup ys))) ∨ (SqT K H p ys ∧ Q (.ref p) H))) fTuple := by
  intro mg W σ ι H S xs ds Q s r p
  unfold fTuple at p
  split at p
  · obtain ⟨x, rfl, r0⟩ := rps1 r
    clear r
    obtain ⟨a, vs, rfl, hs, rs⟩ := r0.tup_inv
    exact ⟨a, vs, rfl, .inr ⟨hs, p.ret s r0⟩⟩
  · obtain ⟨x, rfl, r0⟩ := rps1 r
    clear r
    split at p
    · rename_i ys e
      obtain ⟨a, vs, rfl, hs, rs⟩ := lst_inv s r0 e
      exact ⟨a, vs, rfl, .inl ⟨hs, (p.mkT s rs).2⟩⟩
    · exact p.elim
  · exact p.elim
end
end
end Z
end

section
set_option Elab.async false
set_option linter.all false
set_option maxRecDepth 100000
set_option maxHeartbeats 1000000
namespace Z
noncomputable section
open PySem PySem.Spec PyProof.Rows L2

/-! ### statements -/
inductive F where
  | nx (e : Env) (S : Sto)
  | rt (d : D) (S : Sto)
  | bk (e : Env) (S : Sto)
  | ct (e : Env) (S : Sto)
  | ex (c : Str) (fs : List (Str × D)) (e : Env) (S : Sto)
  | bad
abbrev SDen := Env → Sto → F
def R.lift {α : Type} (r : R α) (e : Env) (k : α → Sto → F) : F := match r with
  | .ok a S => k a S
  | .ex c fs S => .ex c fs e S
  | .bad => .bad
def F.then (f : F) (k : SDen) : F := match f with
  | .nx e S => k e S
  | f => f
def PostS (K : PySem.W.Frag) (mg : Str → Option Value) (W : WX) (ι : Em) (H : Hp) (f : F) (Dn : Ends) : Prop := match f with
  | .nx e S' => ∀ ι' H' σ', Ext ι H ι' H' → Sr K H' ι' S' → Er K H' ι' σ' e → Dn.nx σ' H'
  | .rt d S' => ∀ ι' H' v, Ext ι H ι' H' → Sr K H' ι' S' → Rp K H' ι' v d → Dn.rt v H'
  | .bk e S' => ∀ ι' H' σ', Ext ι H ι' H' → Sr K H' ι' S' → Er K H' ι' σ' e → Dn.bk σ' H'
  | .ct e S' => ∀ ι' H' σ', Ext ι H ι' H' → Sr K H' ι' S' → Er K H' ι' σ' e → Dn.ct σ' H'
  | .ex c fs e S' => ∀ ι' H' σ' dd C gs, Ext ι H ι' H' → Sr K H' ι' S' → Er K H' ι' σ' e → mg c = some (.ref C) → H' dd = some (.xd ((fs.map (·.1)).zip gs)) → ¬ ι'.has dd → Rps K H' ι' gs (fs.map (·.2)) → W (.ref C) (some dd) σ' H'
  | .bad => False
def rdS (K : PySem.W.Frag) (mg : Str → Option Value) (W : WX) (d : SDen) : TS := fun Dn σ H => ∃ ι env S, Sr K H ι S ∧ Er K H ι σ env ∧ PostS K mg W ι H (d env S) Dn
section
variable {K : PySem.W.Frag} {mg : Str → Option Value} {W : WX} {σ : L2.St} {ι ι' : Em} {H H' : Hp} {S : Sto} {Dn : Ends}
theorem PostS.ext {f : F} (h : PostS K mg W ι H f Dn) (e : Ext ι H ι' H') (s : Sr K H' ι' S) : PostS K mg W ι' H' f Dn := by
  cases f with
  | nx e' S' => exact fun ι2 H2 σ' e2 s2 r2 => h ι2 H2 σ' (e.tr s e2) s2 r2
  | rt e' S' => exact fun ι2 H2 σ' e2 s2 r2 => h ι2 H2 σ' (e.tr s e2) s2 r2
  | bk e' S' => exact fun ι2 H2 σ' e2 s2 r2 => h ι2 H2 σ' (e.tr s e2) s2 r2
  | ct e' S' => exact fun ι2 H2 σ' e2 s2 r2 => h ι2 H2 σ' (e.tr s e2) s2 r2
  | ex c fs e' S' => exact fun ι2 H2 σ' dd C gs e2 s2 r2 => h ι2 H2 σ' dd C gs (e.tr s e2) s2 r2
  | bad => exact h
/-- an expression's result, then what is done with it -/
theorem PostS.lift {α β : Type} {Rel : Hp → Em → β → α → Prop} {r : R α} {env : Env} {k : α → Sto → F} (h : PostS K mg W ι H (r.lift env k) Dn) (er : Er K H ι σ env) :
    Post K mg Rel W σ ι H r (fun x H1 => ∃ ι1 a S1, Ext ι H ι1 H1 ∧ Sr K H1 ι1 S1 ∧ Rel H1 ι1 x a ∧ PostS K mg W ι1 H1 (k a S1) Dn) := by
  cases r with
  | ok a S' => exact fun ι2 H2 v e2 s2 r2 => ⟨ι2, a, S', e2, s2, r2, PostS.ext h e2 s2⟩
  | ex c fs S' => exact fun ι2 H2 dd C gs e2 s2 hc hd hn hl => h ι2 H2 σ dd C gs e2 s2 (er.ext e2) hc hd hn hl
  | bad => exact h
theorem PostS.then {f : F} {k : SDen} (h : PostS K mg W ι H (f.then k) Dn) : PostS K mg W ι H f { Dn with nx := rdS K mg W k Dn } := by
  cases f with
  | nx e' S' => exact fun ι2 H2 σ' e2 s2 r2 => ⟨ι2, e', S', s2, r2, PostS.ext h e2 s2⟩
  | rt e' S' => exact h
  | bk e' S' => exact h
  | ct e' S' => exact h
  | ex c fs e' S' => exact h
  | bad => exact h
theorem PostS.nx {env : Env} (h : PostS K mg W ι H (.nx env S) Dn) (s : Sr K H ι S) (r : Er K H ι σ env) : Dn.nx σ H := h ι H σ Ext.refl s r
end
def sSeq (a b : SDen) : SDen := fun env S => (a env S).then b
def sNil : SDen := fun env S => .nx env S
def sSet (i : Nat) (d : Den) : SDen := fun env S => (d env S).lift env fun x S1 => .nx (env.set i (some x)) S1
def sRet (d : Den) : SDen := fun env S => (d env S).lift env fun x S1 => .rt x S1
def sDrop (d : Den) : SDen := fun env S => (d env S).lift env fun _ S1 => .nx env S1
def sIf (t : DenT) (a b : SDen) : SDen := fun env S => (t env S).lift env fun c S1 => if c then a env S1 else b env S1
def sBk : SDen := fun env S => .bk env S
def sCt : SDen := fun env S => .ct env S
section
variable {X : Cx} {W : WX} {e a b : Expr} {d da db : Den} {st : Stmt} {sts sts2 : List Stmt} {ds ds2 : SDen} {t : DenT} {pos : Pos}
abbrev SS (X : Cx) (W : WX) (st : Stmt) (d : SDen) : Prop := PS X st (rdS X.K X.mg W d)
abbrev SSs (X : Cx) (W : WX) (st : List Stmt) (d : SDen) : Prop := PSs X st (rdS X.K X.mg W d)
theorem ss_nil : SSs X W [] sNil := PSs.imp pss_nil fun Dn σ H h => by
  obtain ⟨ι, env, S, s, er, p⟩ := h
  exact p.nx s er
theorem ss_cons (h1 : SS X W st ds) (h2 : SSs X W sts ds2) : SSs X W (st :: sts) (sSeq ds ds2) := PSs.imp (pss_cons h1 h2) fun Dn σ H h => by
  obtain ⟨ι, env, S, s, er, p⟩ := h
  exact ⟨ι, env, S, s, er, p.then⟩
theorem ss_one (h1 : SS X W st ds) : SSs X W [st] ds := pss_one h1
theorem s_pass : SS X W (.Pass pos) sNil := PS.imp ps_pass fun Dn σ H h => by
  obtain ⟨ι, env, S, s, er, p⟩ := h
  exact p.nx s er
theorem s_bk : SS X W (.Break pos) sBk := PS.imp ps_break fun Dn σ H h => by
  obtain ⟨ι, env, S, s, er, p⟩ := h
  exact p ι H σ Ext.refl s er
theorem s_ct : SS X W (.Continue pos) sCt := PS.imp ps_continue fun Dn σ H h => by
  obtain ⟨ι, env, S, s, er, p⟩ := h
  exact p ι H σ Ext.refl s er
theorem s_ret (h : EE X W e d) : SS X W (.Return (some e) pos) (sRet d) := PS.imp (ps_ret h) fun Dn σ H h => by
  obtain ⟨ι, env, S, s, er, p⟩ := h
  refine ⟨ι, env, S, s, er, (PostS.lift (Rel := Rp X.K) p er).mono ?_⟩
  rintro x H1 ⟨ι1, dx, S1, e1, s1, r1, p1⟩
  exact p1 ι1 H1 x Ext.refl s1 r1
theorem s_expr (h : EE X W e d) (hs : swapsWith e none pos.line X.env = pure false := by rfl) : SS X W (.Expr e pos) (sDrop d) := PS.imp (ps_expr h hs) fun Dn σ H h => by
  obtain ⟨ι, env, S, s, er, p⟩ := h
  refine ⟨ι, env, S, s, er, (PostS.lift (Rel := Rp X.K) p er).mono ?_⟩
  rintro x H1 ⟨ι1, dx, S1, e1, s1, r1, p1⟩
  exact p1.nx s1 (er.ext e1)
theorem s_set {i : Nat} {x : Str} {pos' : Pos} (hN : X.N.Nodup) (h : EE X W e d) (hi : X.N[i]? = some x := by rfl) (hx : Loc X.env.scope x := by first | exact Or.inl rfl | exact Or.inr rfl) (hs : swapsWith e (some (.Name x pos')) pos.line X.env = pure false := by rfl)
    (hf : X.fn x = true ∨ X.env.scope.names.lookup x = some .local := by first | exact .inl rfl | exact .inr rfl) : SS X W (.Assign [.Name x pos'] e pos) (sSet i d) := PS.imp (ps_set hN hi hx h hs hf) fun Dn σ H h => by
  obtain ⟨ι, env, S, s, er, p⟩ := h
  refine ⟨ι, env, S, s, er, (PostS.lift (Rel := Rp X.K) p er).mono ?_⟩
  rintro x H1 ⟨ι1, dx, S1, e1, s1, r1, p1⟩
  exact p1.nx s1 ((er.ext e1).set r1)
theorem s_if (hc : TT' X W e t) (ha : SSs X W sts ds) (hb : SSs X W sts2 ds2) : SS X W (.If e sts sts2 pos) (sIf t ds ds2) := PS.imp (ps_if hc ha hb) fun Dn σ H h => by
  obtain ⟨ι, env, S, s, er, p⟩ := h
  refine ⟨ι, env, S, s, er, (PostS.lift (Rel := fun _ _ b c => b = c) p er).mono ?_⟩
  rintro x H1 ⟨ι1, dx, S1, e1, s1, rfl, p1⟩
  cases x with
  | true => rw [if_pos rfl]; exact ⟨ι1, env, S1, s1, er.ext e1, p1⟩
  | false => rw [if_neg Bool.false_ne_true]; exact ⟨ι1, env, S1, s1, er.ext e1, p1⟩
end

/-! ### targets -/
structure Tg where
  run : D → Env → Option Env
  sl : List Nat
def gN (i : Nat) : Tg := ⟨fun x env => some (env.set i (some x)), [i]⟩
def gAll : List Tg → List D → Env → Option Env
  | [], [], env => some env
  | t :: ts, x :: xs, env => (t.run x env).bind fun env => gAll ts xs env
  | _, _, _ => none
def slAll : List Tg → List Nat
  | [] => []
  | t :: ts => t.sl ++ slAll ts
def gT (ts : List Tg) : Tg := ⟨fun x env => match x with
  | .tup xs => gAll ts xs env
  | _ => none, slAll ts⟩
def setsV (σ : L2.St) : List (Nat × V) → L2.St
  | [] => σ
  | (i, v) :: r => setsV (σ.set i (some v)) r
theorem setsV_app (σ : L2.St) : ∀ (a b : List (Nat × V)), setsV σ (a ++ b) = setsV (setsV σ a) b
  | [], _ => rfl
  | (i, v) :: r, b => by rw [List.cons_append]; exact setsV_app _ r b
def rdG (K : PySem.W.Frag) (t : Tg) : TG := fun v σ H Q => ∃ ι env x env', Er K H ι σ env ∧ Rp K H ι v x ∧ t.run x env = some env' ∧ ∀ ws : List (Nat × V), (∀ p ∈ ws, p.1 ∈ t.sl) → Er K H ι (setsV σ ws) env' → Q (setsV σ ws) H
def rdGs (K : PySem.W.Frag) (ts : List Tg) : TGs := fun vs σ H Q => ∃ ι env xs env', Er K H ι σ env ∧ Rps K H ι vs xs ∧ gAll ts xs env = some env' ∧ ∀ ws : List (Nat × V), (∀ p ∈ ws, p.1 ∈ slAll ts) → Er K H ι (setsV σ ws) env' → Q (setsV σ ws) H
section
variable {X : Cx} {pos : Pos}
abbrev GG (X : Cx) (e : Expr) (t : Tg) : Prop := PG X e (rdG X.K t)
abbrev GGs (X : Cx) (e : List Expr) (t : List Tg) : Prop := PGs X e (rdGs X.K t)
theorem PG.imp {e : Expr} {t t' : TG} (h : PG X e t) (f : ∀ v σ H Q, t' v σ H Q → t v σ H Q) : PG X e t' := ⟨fun pins s σ H v u Q I r q => h.run pins s σ H v u Q I r (f v σ H Q q)⟩
theorem PGs.imp {e : List Expr} {t t' : TGs} (h : PGs X e t) (f : ∀ v σ H Q, t' v σ H Q → t v σ H Q) : PGs X e t' := ⟨fun pins s σ H v u Q I r q => h.run pins s σ H v u Q I r (f v σ H Q q)⟩
theorem g_n (i : Nat) {x : Str} (hN : X.N.Nodup) (hi : X.N[i]? = some x := by rfl) (hx : Loc X.env.scope x := by first | exact Or.inl rfl | exact Or.inr rfl) (hf : X.fn x = true ∨ X.env.scope.names.lookup x = some .local := by first | exact .inl rfl | exact .inr rfl) : GG X (.Name x pos) (gN i) :=
  PG.imp (pg_name hN hi hx hf) fun v σ H Q h => by
    obtain ⟨ι, env, x, env', er, r, e, q⟩ := h
    cases e
    exact q [(i, v)] (by simp [gN]) (er.set r)
theorem gs_nil : GGs X [] [] := PGs.imp pgs_nil fun v σ H Q h => by
  obtain ⟨ι, env, xs, env', er, r, e, q⟩ := h
  cases xs with
  | nil => cases r; cases e; exact ⟨rfl, q [] (by simp) er⟩
  | cons x xs => cases e
theorem gs_cons {e : Expr} {es : List Expr} {t : Tg} {ts : List Tg} (h1 : GG X e t) (h2 : GGs X es ts) (hs : (assignEach (e :: es) X.env).map (·.2) = assign e X.env :: (assignEach es X.env).map (·.2) := by rfl) : GGs X (e :: es) (t :: ts) := PGs.imp (pgs_cons h1 h2 hs) fun v σ H Q h => by
  obtain ⟨ι, env, xs, env', er, r, e, q⟩ := h
  cases xs with
  | nil => cases e
  | cons x xs =>
    cases r with
    | cons r rs =>
      cases q1 : t.run x env with
      | none => rw [gAll, q1] at e; cases e
      | some env1 =>
        rw [gAll, q1] at e
        refine ⟨_, _, rfl, ι, env, x, env1, er, r, q1, fun ws hw er' => ⟨ι, env1, xs, env', er', rs, e, fun us hu er2 => ?_⟩⟩
        have e3 := setsV_app σ ws us
        rw [← e3] at er2 ⊢
        exact q (ws ++ us) (fun p hp => by
          rcases List.mem_append.mp hp with hp | hp
          · exact List.mem_append_left _ (hw p hp)
          · exact List.mem_append_right _ (hu p hp)) er2
theorem gAll_len : ∀ {ts : List Tg} {xs : List D} {env env' : Env}, gAll ts xs env = some env' → xs.length = ts.length
  | [], [], _, _, _ => rfl
  | t :: ts, x :: xs, env, env', e => by
    cases q1 : t.run x env with
    | none => rw [gAll, q1] at e; cases e
    | some env1 => rw [gAll, q1] at e; simp [gAll_len (ts := ts) (xs := xs) e]
  | [], x :: xs, _, _, e => by cases e
  | t :: ts, [], _, _, e => by cases e
theorem g_t {es : List Expr} {k : Nat} {ts : List Tg} (hc : X.calm = true) (h : GGs X es ts) (hn : (assignEach es X.env).length = ts.length := by rfl) (hst : (assignEach es X.env).findIdx? (·.1) = none := by rfl) : GG X (.Tuple es k pos) (gT ts) :=
  PG.imp (pg_tup (n := ts.length) hc h hn hst) fun v σ H Q h => by
    obtain ⟨ι, env, x, env', er, r, e, q⟩ := h
    cases x with
    | tup xs =>
      obtain ⟨a, vs, rfl, hs, rs⟩ := r.tup_inv
      exact ⟨a, vs, rfl, hs, by rw [rs.length]; exact gAll_len e, ι, env, xs, env', er, rs, e, q⟩
    | _ => cases e
end
/-- target = e -/
def sAsg (t : Tg) (d : Den) : SDen := fun env S => (d env S).lift env fun x S1 => match t.run x env with
  | some env' => .nx env' S1
  | none => .bad
/-- xs[i] = e of a list that is a cell -/
def sPut (o i d : Den) : SDen := fun env S => (d env S).lift env fun x S1 => (o env S1).lift env fun l S2 => (i env S2).lift env fun j S3 => match l, j with
  | .ref n, .int k => match S3[n]? with
    | some (.lst xs) => match ixN xs.length k with
      | some j => .nx env (S3.set n (.lst (xs.set j x)))
      | none => .bad
    | none => .bad
  | _, _ => .bad
section
variable {X : Cx} {W : WX} {tg e o i : Expr} {d dd di : Den} {t : Tg} {pos : Pos}
theorem s_asg (h : EE X W e d) (hg : GG X tg t) (hs : swapsWithSole [tg] e pos.line X.env = pure false := by rfl) (hw : swappedStores [tg] e X.env = pure none := by rfl) (h1 : (assignEach [tg] X.env).map (·.2) = [assign tg X.env] := by rfl) : SS X W (.Assign [tg] e pos) (sAsg t d) := PS.imp (ps_asg h hg hs hw h1) fun Dn σ H h => by
  obtain ⟨ι, env, S, s, er, p⟩ := h
  refine ⟨ι, env, S, s, er, (PostS.lift (Rel := Rp X.K) p er).mono ?_⟩
  rintro x H1 ⟨ι1, dx, S1, e1, s1, r1, p1⟩
  split at p1
  · rename_i env' e2
    exact ⟨ι1, env, dx, env', er.ext e1, r1, e2, fun ws _ er' => p1.nx s1 er'⟩
  · exact p1.elim
theorem s_put {tpos : Pos} (hg : PG X (.Subscript o i tpos) (gSub (rd X.K X.mg W dd) (rd X.K X.mg W di) rSetL)) (h : EE X W e d) (h1 : (assignEach [.Subscript o i tpos] X.env).map (·.2) = [assign (.Subscript o i tpos) X.env])
    (hs : swapsWithSole [.Subscript o i tpos] e pos.line X.env = pure false := by rfl) (hw : swappedStores [.Subscript o i tpos] e X.env = pure none := by rfl) :
    SS X W (.Assign [.Subscript o i tpos] e pos) (sPut dd di d) := PS.imp (ps_asg h hg hs hw h1) fun Dn σ H h => by
  obtain ⟨ι, env, S, s, er, p⟩ := h
  refine ⟨ι, env, S, s, er, (PostS.lift (Rel := Rp X.K) p er).mono ?_⟩
  rintro x H1 ⟨ι1, dx, S1, e1, s1, r1, p1⟩
  have er1 := er.ext e1
  refine ⟨ι1, env, S1, s1, er1, (PostS.lift (Rel := Rp X.K) p1 er1).mono ?_⟩
  rintro l H2 ⟨ι2, dl, S2, e2, s2, r2, p2⟩
  have er2 := er1.ext e2
  refine ⟨ι2, env, S2, s2, er2, (PostS.lift (Rel := Rp X.K) p2 er2).mono ?_⟩
  rintro j H3 ⟨ι3, dj, S3, e3, s3, r3, p3⟩
  have er3 := er2.ext e3
  split at p3
  · rename_i n k
    cases r3
    obtain ⟨a, rfl, ea⟩ := (r2.ext e3).ref_inv
    split at p3
    · rename_i xs e4
      split at p3
      · rename_i m e5
        obtain ⟨vs, h1, h2⟩ := s3.list ea e4
        refine ⟨a, vs, k, m, rfl, rfl, h1, by rw [h2.length]; exact e5, ?_⟩
        have hp : Ext ι3 H3 ι3 (upd H3 a (.lst (vs.set m x))) := Ext.put ea
        exact p3 ι3 _ σ hp (s3.put ea (h2.set m ((r1.ext e2).ext e3))) (er3.ext hp)
      · exact p3.elim
    · exact p3.elim
  · exact p3.elim
end

/-! ### what is walked -/
structure ItOk (K : PySem.W.Frag) (J : It) (xs : List D) (g : Sto → Prop) (ι : Em) (H : Hp) : Prop where
  go : ∀ (ι2 : Em) (H2 : Hp) (S2 : Sto) (i : Nat) (x : D), Ext ι H ι2 H2 → Sr K H2 ι2 S2 → g S2 → xs[i]? = some x → J.go i H2 ∧ ∀ v H3, J.yld i H2 v H3 → Ext ι2 H2 ι2 H3 ∧ Sr K H3 ι2 S2 ∧ Rp K H3 ι2 v x
  stop : ∀ (ι2 : Em) (H2 : Hp) (S2 : Sto), Ext ι H ι2 H2 → Sr K H2 ι2 S2 → g S2 → J.stop xs.length H2
abbrev DenI := Env → Sto → R (List D × (Sto → Prop))
def rdI (K : PySem.W.Frag) (mg : Str → Option Value) (W : WX) (d : DenI) : TI := fun σ H Q => ∃ ι env S, Sr K H ι S ∧ Er K H ι σ env ∧ Post K mg (fun H1 ι1 J a => ItOk K J a.1 a.2 ι1 H1) W σ ι H (d env S) Q
section
variable {X : Cx} {W : WX} {tg l e : Expr} {tl d : Den} {pos p : Pos}
abbrev II (X : Cx) (W : WX) (tg e : Expr) (d : DenI) : Prop := PI X tg e (rdI X.K X.mg W d)
theorem PI.imp {t t' : TI} (h : PI X tg e t) (f : ∀ σ H R, t' σ H R → t σ H R) : PI X tg e t' := ⟨fun pins s σ H R I q => h.run pins s σ H R I (f σ H R q)⟩
/-- what is read of a list or tuple while it stands -/
def still (x : D) (xs : List D) (S : Sto) : Prop := match x with
  | .ref n => S[n]? = some (.lst xs)
  | _ => True
theorem still_tup {ys xs : List D} {S : Sto} : still (.tup ys) xs S = True := rfl
theorem still_lst {ys xs : List D} {S : Sto} : still (.lst ys) xs S = True := rfl
theorem still_frz {ys xs : List D} {S : Sto} : still (.frz ys) xs S = True := rfl
theorem still_ref {n : Nat} {xs : List D} {S : Sto} : still (.ref n) xs S = (S[n]? = some (.lst xs)) := rfl
def asSeq (x : D) (S : Sto) : R (List D × (Sto → Prop)) := match seqOf S x with
  | some xs => .ok (xs, still x xs) S
  | none => .bad
def iSeq (d : Den) : DenI := fun env S => (d env S).bind asSeq
/-- the walked list or tuple of a value, later on -/
theorem still_inv {K : PySem.W.Frag} {ι : Em} {H : Hp} {S S1 : Sto} {v : V} {x : D} {xs : List D} (s : Sr K H ι S) (r : Rp K H ι v x) (e0 : seqOf S1 x = some xs) (g : still x xs S) : ∃ a vs, v = .ref a ∧ (SqL K H a vs ∨ SqT K H a vs) ∧ Rps K H ι vs xs := by
  refine seq_inv s r ?_
  cases x with
  | ref n => simp only [still] at g; simp only [seqOf, g]
  | _ => exact e0
/-- lists stay lists, tuples tuples -/
def isT : D → Bool
  | .tup _ => true
  | _ => false
theorem still_L {K : PySem.W.Frag} {ι : Em} {H : Hp} {S S1 : Sto} {v : V} {x : D} {xs : List D} (s : Sr K H ι S) (r : Rp K H ι v x) (e0 : seqOf S1 x = some xs) (g : still x xs S) (h : isT x = false) : ∃ a vs, v = .ref a ∧ SqL K H a vs ∧ Rps K H ι vs xs := by
  refine lst_inv s r ?_
  cases x with
  | ref n => simp only [still] at g; simp only [lstOf, g]
  | tup ys => cases h
  | _ => exact e0
theorem walk_ok {K : PySem.W.Frag} {J : It} {n : Nat} {G : Hp → Prop} {Y : Nat → Hp → V → Hp → Prop} {xs : List D} {g : Sto → Prop} {ι : Em} {H : Hp} (w : Walk J n G Y) (hn : n = xs.length)
    (hG : ∀ ι2 H2 S2, Ext ι H ι2 H2 → Sr K H2 ι2 S2 → g S2 → G H2)
    (hY : ∀ ι2 H2 S2 i x v H3, Ext ι H ι2 H2 → Sr K H2 ι2 S2 → g S2 → xs[i]? = some x → Y i H2 v H3 → Ext ι2 H2 ι2 H3 ∧ Sr K H3 ι2 S2 ∧ Rp K H3 ι2 v x) : ItOk K J xs g ι H := by
  subst hn
  refine ⟨fun ι2 H2 S2 i x e s hg hx => ?_, fun ι2 H2 S2 e s hg => w.stops H2 (hG ι2 H2 S2 e s hg)⟩
  have hi : i < xs.length := (List.getElem?_eq_some_iff.mp hx).1
  have q := hG ι2 H2 S2 e s hg
  exact ⟨w.goes i H2 hi q, fun v H3 y => hY ι2 H2 S2 i x v H3 e s hg hx (w.yields i H2 v H3 hi q y)⟩
/-- the list or tuple that e gives -/
def iEach (K : PySem.W.Frag) (tl : TE) : TI := fun σ H R => tl σ H fun x H1 => ∃ a, x = .ref a ∧ (((∃ xs, SqL K H1 a xs) ∧ R (Itl K a) H1) ∨ ((∃ xs, SqT K H1 a xs) ∧ R (Itt K a) H1))
theorem pi_each {tl : TE} (hl : PE X l tl) : PI X tg l (iEach X.K tl) := by
  refine ⟨fun pins s σ H R I h => thn (hl.run pins s σ H _ I h) fun v s1 ⟨x, H1, I1, r1, q1⟩ => ?_⟩
  obtain ⟨a, rfl, q⟩ := q1
  cases r1
  have fresh : ∀ b ∈ [s1.heap.objs.size], FpOk X pins H1 b := fun b hb => by
    cases List.mem_singleton.mp hb
    exact I1.fpOk (Nat.le_refl _) (I1.hok.fresh (Nat.le_refl _))
  rcases q with ⟨⟨xs, hq⟩, q⟩ | ⟨⟨xs, hq⟩, q⟩
  · obtain ⟨its, rv, p, hz⟩ := I1.list hq
    exact wpAny_pyIter_list p.isList
      ⟨s1.heap.objs.size, [s1.heap.objs.size], _, _, H1, rfl, I1.kept (t' := s1.toks) (fun b o e => Heap.get?_push_of_some _ e), turn_list a _, ⟨_, Heap.get?_push_size _ rfl, rfl, rfl⟩, fresh, q⟩
  · obtain ⟨its, rv, p, hz⟩ := I1.tuple hq
    exact wpAny_pyIter_tuple (show s1.heap.IsTuple a its.toArray from p)
      ⟨s1.heap.objs.size, [s1.heap.objs.size], _, _, H1, rfl, I1.kept (t' := s1.toks) (fun b o e => Heap.get?_push_of_some _ e), turn_tuple a _, ⟨_, Heap.get?_push_size _ rfl, rfl, rfl⟩, fresh, q⟩
theorem i_seq (hl : EE X W l tl) : II X W tg l (iSeq tl) := PI.imp (pi_each hl) fun σ H R h => by
  obtain ⟨ι, env, S, s, er, p⟩ := h
  refine ⟨ι, env, S, s, er, (Post.bind (Rel' := Rp X.K) p).mono ?_⟩
  rintro x H1 ⟨ι1, dx, S1, e1, s1, r1, p1⟩
  unfold asSeq at p1
  split at p1
  · rename_i xs e0
    cases ht : isT dx with
    | false =>
      have g0 : still dx xs S1 := by
        cases dx with
        | ref n =>
          simp only [seqOf] at e0
          split at e0
          · rename_i ys e5; cases e0; exact e5
          · cases e0
        | _ => trivial
      obtain ⟨a, vs, rfl, hs, rs⟩ := still_L s1 r1 e0 g0 ht
      have hw : ∀ ι2 H2 S2, Ext ι1 H1 ι2 H2 → Sr X.K H2 ι2 S2 → still dx xs S2 → ∃ ws, SqL X.K H2 a ws ∧ Rps X.K H2 ι2 ws xs := fun ι2 H2 S2 e2 s2 g2 => by
        obtain ⟨b, ws, e3, h3, r3⟩ := still_L s2 (r1.ext e2) e0 g2 ht
        cases e3; exact ⟨ws, h3, r3⟩
      refine ⟨a, rfl, .inl ⟨⟨vs, hs⟩, p1 ι1 H1 _ Ext.refl s1 ⟨fun ι2 H2 S2 i y e2 s2 g2 hy => ?_, fun ι2 H2 S2 e2 s2 g2 => ?_⟩⟩⟩
      · obtain ⟨ws, h3, r3⟩ := hw ι2 H2 S2 e2 s2 g2
        obtain ⟨v, hv, rv⟩ := r3.get hy
        refine ⟨⟨ws, v, h3, hv⟩, fun u H3 yy => ?_⟩
        obtain ⟨rfl, hu⟩ := yy
        have := hu ws h3
        rw [hv] at this; cases this
        exact ⟨Ext.refl, s2, rv⟩
      · obtain ⟨ws, h3, r3⟩ := hw ι2 H2 S2 e2 s2 g2
        exact ⟨ws, h3, by rw [r3.length]; exact Nat.le_refl _⟩
    | true =>
      cases dx with
      | tup ys =>
        cases e0
        obtain ⟨a, vs, rfl, hs, rs⟩ := r1.tup_inv
        have hw : ∀ ι2 H2 S2, Ext ι1 H1 ι2 H2 → Sr X.K H2 ι2 S2 → ∃ ws, SqT X.K H2 a ws ∧ Rps X.K H2 ι2 ws xs := fun ι2 H2 S2 e2 s2 => by
          obtain ⟨b, ws, e3, h3, r3⟩ := (r1.ext e2).tup_inv
          cases e3; exact ⟨ws, h3, r3⟩
        refine ⟨a, rfl, .inr ⟨⟨vs, hs⟩, p1 ι1 H1 _ Ext.refl s1 ⟨fun ι2 H2 S2 i y e2 s2 g2 hy => ?_, fun ι2 H2 S2 e2 s2 g2 => ?_⟩⟩⟩
        · obtain ⟨ws, h3, r3⟩ := hw ι2 H2 S2 e2 s2
          obtain ⟨v, hv, rv⟩ := r3.get hy
          refine ⟨⟨ws, v, h3, hv⟩, fun u H3 yy => ?_⟩
          obtain ⟨rfl, hu⟩ := yy
          have := hu ws h3
          rw [hv] at this; cases this
          exact ⟨Ext.refl, s2, rv⟩
        · obtain ⟨ws, h3, r3⟩ := hw ι2 H2 S2 e2 s2
          exact ⟨ws, h3, by rw [r3.length]; exact Nat.le_refl _⟩
      | _ => cases ht
  · exact p1.elim
/-- range(n), range(m, n) -/
def rngD (lo : Int) (n : Nat) : List D := (List.range n).map fun (i : Nat) => .int (lo + (i : Int))
def big : Int := 4611686018427387904
def Rok (i : Int) : Prop := -big ≤ i ∧ i < big
noncomputable instance (i : Int) : Decidable (Rok i) := Classical.propDecidable _
def fRng1 (xs : List D) (S : Sto) : R (List D × (Sto → Prop)) := match xs with
  | [.int j] => if Rok j then .ok (rngD 0 j.toNat, fun _ => True) S else .bad
  | _ => .bad
def fRng2 (xs : List D) (S : Sto) : R (List D × (Sto → Prop)) := match xs with
  | [.int i, .int j] => if Rok i ∧ Rok j then .ok (rngD i (j - i).toNat, fun _ => True) S else .bad
  | _ => .bad
def iRng1 (d : DenA) : DenI := fun env S => (d env S).bind fRng1
def iRng2 (d : DenA) : DenI := fun env S => (d env S).bind fRng2
theorem rng_ok {K : PySem.W.Frag} {lo : Int} {n : Nat} {ι : Em} {H : Hp} : ItOk K (Itr lo n) (rngD lo n) (fun _ => True) ι H := by
  refine ⟨fun ι2 H2 S2 i x e2 s2 _ hx => ?_, fun ι2 H2 S2 _ _ _ => by show n ≤ _; simp [rngD]⟩
  have hi : i < n := by
    have := (List.getElem?_eq_some_iff.mp hx).1
    simpa [rngD] using this
  refine ⟨hi, fun v H3 y => ?_⟩
  obtain ⟨rfl, rfl⟩ := y
  refine ⟨Ext.refl, s2, ?_⟩
  unfold rngD at hx
  rw [List.getElem?_map, List.getElem?_range hi] at hx
  cases hx
  exact .int _
theorem big_eq : big = 2 ^ 62 := by decide
theorem i_rng1 {a : Expr} {da : DenA} (hg : Gl X "range") (hm : X.mg "range" = none) (ha : AA X W [a] da) (hs : starEach [a] X.env = [(false, eval a X.env)] := by rfl) : II X W tg (.Call (.Name "range" p) [a] [] pos) (iRng1 da) := PI.imp (pi_range1 hg hm ha hs) fun σ H R h => by
  obtain ⟨ι, env, S, s, er, q⟩ := h
  refine ⟨ι, env, S, s, er, (Post.bind (Rel' := Rps X.K) q).mono ?_⟩
  rintro x H1 ⟨ι1, dx, S1, e1, s1, r1, p1⟩
  unfold fRng1 at p1
  split at p1
  · rename_i j
    obtain ⟨v, rfl, r⟩ := rps1 r1
    cases r
    split at p1
    · rename_i hj
      unfold Rok at hj
      rw [big_eq] at hj
      exact ⟨j, rfl, hj.1, hj.2, p1 ι1 H1 _ Ext.refl s1 rng_ok⟩
    · exact p1.elim
  · exact p1.elim
theorem i_rng2 {a b : Expr} {da : DenA} (hg : Gl X "range") (hm : X.mg "range" = none) (ha : AA X W [a, b] da) (hs : starEach [a, b] X.env = [(false, eval a X.env), (false, eval b X.env)] := by rfl) (hs2 : starEach [b] X.env = [(false, eval b X.env)] := by rfl) :
    II X W tg (.Call (.Name "range" p) [a, b] [] pos) (iRng2 da) := PI.imp (pi_range2 hg hm ha hs hs2) fun σ H R h => by
  obtain ⟨ι, env, S, s, er, q⟩ := h
  refine ⟨ι, env, S, s, er, (Post.bind (Rel' := Rps X.K) q).mono ?_⟩
  rintro x H1 ⟨ι1, dx, S1, e1, s1, r1, p1⟩
  unfold fRng2 at p1
  split at p1
  · rename_i i j
    obtain ⟨v, w, rfl, r, r2⟩ := rps2 r1
    cases r; cases r2
    split at p1
    · rename_i hj
      unfold Rok at hj
      rw [big_eq] at hj
      exact ⟨i, j, rfl, ⟨hj.1.1, hj.1.2, hj.2.1, hj.2.2⟩, p1 ι1 H1 _ Ext.refl s1 rng_ok⟩
    · exact p1.elim
  · exact p1.elim

/-! ### for, while -/
open Classical in
noncomputable def forGo (g : Sto → Prop) (t : Tg) (body : SDen) : List D → Env → Sto → F
  | [], env, S => if g S then .nx env S else .bad
  | x :: xs, env, S => if g S then match t.run x env with
    | some env' => match body env' S with
      | .nx e S' => forGo g t body xs e S'
      | .ct e S' => forGo g t body xs e S'
      | .bk e S' => .nx e S'
      | f => f
    | none => .bad
    else .bad
noncomputable def sFor (src : DenI) (t : Tg) (body : SDen) : SDen := fun env S => (src env S).lift env fun a S1 => forGo a.2 t body a.1 env S1
def whileGo (c : DenT) (body : SDen) : Nat → Env → Sto → F
  | 0, _, _ => .bad
  | n + 1, env, S => (c env S).lift env fun b S1 => if b then (match body env S1 with
      | .nx e S' => whileGo c body n e S'
      | .ct e S' => whileGo c body n e S'
      | .bk e S' => .nx e S'
      | f => f) else .nx env S1
def sWhile (n : Nat) (c : DenT) (body : SDen) : SDen := whileGo c body n
theorem Post.le {K : PySem.W.Frag} {mg : Str → Option Value} {α β : Type} {Rel : Hp → Em → β → α → Prop} {σ : L2.St} {ι : Em} {H : Hp} {r : R α} {Q : β → Hp → Prop} (h : Post K mg Rel W σ ι H r Q) {S : Sto} {ι0 : Em} {H0 : Hp} (e : Ext ι0 H0 ι H) (s : Sr K H ι S) :
    Post K mg Rel W σ ι H r (fun v H' => Q v H') := h
theorem s_for {iter : Expr} {body : List Stmt} {src : DenI} {t : Tg} {db : SDen} (hc : X.calm = true) (hi : II X W tg iter src) (hg : GG X tg t) (hb : SSs X W body db) (hp : PassesOwn (model X.prog X.w) X.A X.env X.xe) (hs : ∀ x, foldedSetIterable iter X.env x = pure x := by intro _; rfl) :
    SS X W (.For tg iter body [] pos) (sFor src t db) := PS.imp (ps_for hp hc hi hg hb hs) fun Dn σ H h => by
  obtain ⟨ι, env, S, s, er, p⟩ := h
  refine ⟨ι, env, S, s, er, (PostS.lift (Rel := fun H1 ι1 J a => ItOk X.K J a.1 a.2 ι1 H1) p er).mono ?_⟩
  rintro J H1 ⟨ι1, ⟨xs, g⟩, S1, e1, s1, r1, p1⟩
  have er1 := er.ext e1
  clear p er e1 s
  simp only at r1 p1
  refine ⟨fun i m σ H => m = xs.length - i ∧ i ≤ xs.length ∧ ∃ ι2 env S2, Ext ι1 H1 ι2 H ∧ Sr X.K H ι2 S2 ∧ Er X.K H ι2 σ env ∧ PostS X.K X.mg W ι2 H (forGo g t db (xs.drop i) env S2) Dn,
    ⟨xs.length, rfl, Nat.zero_le _, ι1, env, S1, Ext.refl, s1, er1, by simpa using p1⟩, ?_⟩
  rintro i m σ H2 ⟨rfl, hi, ι2, env2, S2, e2, s2, er2, p2⟩
  by_cases hlt : i < xs.length
  · rw [List.drop_eq_getElem_cons hlt] at p2
    simp only [forGo] at p2
    split at p2
    · rename_i hg2
      obtain ⟨go, gy⟩ := r1.go ι2 H2 S2 i _ e2 s2 hg2 (List.getElem?_eq_getElem hlt)
      refine .inr ⟨go, fun σ' H' => ∃ ι3 env3 S3, Ext ι1 H1 ι3 H' ∧ Sr X.K H' ι3 S3 ∧ Er X.K H' ι3 σ' env3 ∧ PostS X.K X.mg W ι3 H' (forGo g t db (xs.drop (i + 1)) env3 S3) Dn, ?_, ?_⟩
      · rintro σ' H' ⟨ι3, env3, S3, q⟩
        exact ⟨xs.length - (i + 1), by omega, rfl, hlt, ι3, env3, S3, q⟩
      · intro v H3 y
        obtain ⟨e3, s3, r3⟩ := gy v H3 y
        split at p2
        · rename_i env' e5
          refine ⟨ι2, env2, _, env', er2.ext e3, r3, e5, fun ws _ er' => ?_⟩
          refine ⟨ι2, env', S2, s3, er', ?_⟩
          split at p2
          · rename_i e6 S6 eb
            rw [eb]
            exact fun ι4 H4 σ4 e4 s4 er4 => ⟨ι4, _, _, (e2.tr s2 e3).tr s3 e4, s4, er4, p2.ext (e3.tr s3 e4) s4⟩
          · rename_i e6 S6 eb
            rw [eb]
            exact fun ι4 H4 σ4 e4 s4 er4 => ⟨ι4, _, _, (e2.tr s2 e3).tr s3 e4, s4, er4, p2.ext (e3.tr s3 e4) s4⟩
          · rename_i e6 S6 eb
            rw [eb]
            exact fun ι4 H4 σ4 e4 s4 er4 => p2 ι4 H4 σ4 (e3.tr s3 e4) s4 er4
          · rename_i f h1 h2 h3
            have p3 := p2.ext e3 s3
            cases q : db env' S2 with
            | nx a b => exact absurd q (h1 a b)
            | ct a b => exact absurd q (h2 a b)
            | bk a b => exact absurd q (h3 a b)
            | rt a b => rw [q] at p3; exact p3
            | ex a b c d => rw [q] at p3; exact p3
            | bad => rw [q] at p3; exact p3
        · exact p2.elim
    · exact p2.elim
  · have hi' : i = xs.length := by omega
    subst hi'
    rw [List.drop_length] at p2
    simp only [forGo] at p2
    split at p2
    · rename_i hg2
      exact .inl ⟨r1.stop ι2 H2 S2 e2 s2 hg2, p2.nx s2 er2⟩
    · exact p2.elim
theorem s_while {c : Expr} {body : List Stmt} {tc : DenT} {db : SDen} (n : Nat) (hc : TT' X W c tc) (hb : SSs X W body db) (hp : PassesOwn (model X.prog X.w) X.A X.env X.xe) : SS X W (.While c body [] pos) (sWhile n tc db) := PS.imp (ps_while hp hc hb) fun Dn σ H h => by
  obtain ⟨ι, env, S, s, er, p⟩ := h
  refine ⟨fun m σ H => ∃ ι env S, Sr X.K H ι S ∧ Er X.K H ι σ env ∧ PostS X.K X.mg W ι H (whileGo tc db m env S) Dn, ⟨n, ι, env, S, s, er, p⟩, ?_⟩
  rintro m σ1 H1 ⟨ι1, env1, S1, s1, er1, p1⟩
  cases m with
  | zero => exact p1.elim
  | succ m =>
    refine ⟨ι1, env1, S1, s1, er1, (PostS.lift (Rel := fun _ _ b c => b = c) p1 er1).mono ?_⟩
    rintro b H2 ⟨ι2, _, S2, e2, s2, rfl, p2⟩
    cases b with
    | false => rw [if_neg Bool.false_ne_true]; exact p2.nx s2 (er1.ext e2)
    | true =>
      rw [if_pos rfl]
      simp only [if_true] at p2
      refine ⟨fun σ' H' => ∃ ι env S, Sr X.K H' ι S ∧ Er X.K H' ι σ' env ∧ PostS X.K X.mg W ι H' (whileGo tc db m env S) Dn, fun σ' H' q => ⟨m, Nat.lt_succ_self _, q⟩, ι2, env1, S2, s2, er1.ext e2, ?_⟩
      split at p2
      · rename_i e6 S6 eb
        rw [eb]
        exact fun ι4 H4 σ4 e4 s4 er4 => ⟨ι4, _, _, s4, er4, p2.ext e4 s4⟩
      · rename_i e6 S6 eb
        rw [eb]
        exact fun ι4 H4 σ4 e4 s4 er4 => ⟨ι4, _, _, s4, er4, p2.ext e4 s4⟩
      · rename_i e6 S6 eb
        rw [eb]
        exact fun ι4 H4 σ4 e4 s4 er4 => p2 ι4 H4 σ4 e4 s4 er4
      · rename_i f h1 h2 h3
        cases q : db env1 S2 with
        | nx a b => exact absurd q (h1 a b)
        | ct a b => exact absurd q (h2 a b)
        | bk a b => exact absurd q (h3 a b)
        | rt a b => rw [q] at p2; exact p2
        | ex a b c d => rw [q] at p2; exact p2
        | bad => rw [q] at p2; exact p2
end
end
end Z
end

section
set_option Elab.async false
set_option linter.all false
set_option maxRecDepth 100000
set_option maxHeartbeats 1000000
namespace Z
noncomputable section
open PySem PySem.Spec PyProof.Rows L2

/-! ### defs -/
abbrev FD := List D → Sto → R D
/-- a def's promise, by what it computes -/
def spOf (K : PySem.W.Frag) (mg : Str → Option Value) (n : Nat) (f : FD) : Sp := fun vs H Q E => vs.length = n ∧ ∃ ι ds S, Sr K H ι S ∧ Rps K H ι vs ds ∧ Post K mg (Rp K) (fun c d _ H => E c d H) [] ι H (f ds S) Q
theorem Post.wish {α β : Type} {K : PySem.W.Frag} {mg : Str → Option Value} {Rel : Hp → Em → β → α → Prop} {W : WX} {σ σ' : L2.St} {ι : Em} {H : Hp} {r : R α} {Q : β → Hp → Prop} {E : XK} (h : Post K mg Rel W σ ι H r Q) (hE : ∀ c d H, W c d σ H → E c d H) : Post K mg Rel (fun c d _ H => E c d H) σ' ι H r Q := by
  cases r with
  | ok a S' => exact h
  | ex c fs S' => exact fun ι2 H2 dd C gs e2 s2 hc hd hn hl => hE _ _ _ (h ι2 H2 dd C gs e2 s2 hc hd hn hl)
  | bad => exact h
/-- what a body computes, called -/
def fnF (n : Nat) (body : SDen) : FD := fun ds S => match body (ds.map some ++ List.replicate (n - ds.length) none) S with
  | .nx _ S' => .ok .non S'
  | .rt d S' => .ok d S'
  | .ex c fs _ S' => .ex c fs S'
  | _ => .bad
theorem er_start {K : PySem.W.Frag} {H : Hp} {ι : Em} {vs : List V} {ds : List D} {N : List Str} (r : Rps K H ι vs ds) (hN : vs.length ≤ N.length) : Er K H ι (L2.start N vs) (ds.map some ++ List.replicate (N.length - ds.length) none) := by
  refine ⟨by simp [L2.start, r.length], fun i d e => ?_⟩
  by_cases hi : i < ds.length
  · rw [List.getElem?_append_left (by simpa using hi)] at e
    rw [List.getElem?_map] at e
    cases q : ds[i]? with
    | none => rw [q] at e; cases e
    | some d' =>
      rw [q] at e; cases e
      obtain ⟨v, hv, rv⟩ := r.get q
      refine ⟨v, ?_, rv⟩
      unfold L2.start
      rw [List.getElem?_append_left (by rw [List.length_map, r.length]; exact hi), List.getElem?_map, hv]
      rfl
  · rw [List.getElem?_append_right (by simpa using hi)] at e
    have := List.getElem?_replicate (a := (none : Option D)) (n := N.length - ds.length) (i := i - (ds.map some).length)
    rw [this] at e
    split at e <;> cases e
section
variable {P : Program} {w : World} {K : PySem.W.Frag} {mg : Str → Option Value} {base : Heap}
abbrev wE (E : XK) : WX := fun c d _ H => E c d H
abbrev FnZ (P : Program) (w : World) (K : PySem.W.Frag) (mg : Str → Option Value) (base : Heap) (k : Nat) (f : Addr) (fd : FuncData) (ps : List Str) (F : FD) : Prop := FnOk P w K mg base (L2.CX P w) k f fd ps (spOf K mg ps.length F)
/-- THE RULE for a def -/
theorem fn_ok {x qual : Str} {st : Stmt} {f : Addr} {fd : FuncData} {N ps : List Str} {k : Nat} {body : SDen} (F : Fun K x qual st f fd) (S : FnScope N ps (defScope st)) (hN : ps.length ≤ N.length)
    (hb : ∀ (cdv : Value) (A : Around) (outer : List PySem.Env) (s : Shared) (H : Hp) (E : XK), Room k (A.deeper (envOfC qual (defScope st) s.heap.objs.size f cdv)) →
      Takes (cxOf (L2.CX P w) P w K mg base N qual (defScope st) f cdv A outer s H E) (wE E) → SSs (cxOf (L2.CX P w) P w K mg base N qual (defScope st) f cdv A outer s H E) (wE E) (defBody st) body) :
    FnZ P w K mg base (k + 1) f fd ps (fnF N.length body) := by
  refine F.okX S (fun vs H Q E h => h.1) fun cdv A outer s H vs Q E hr h => ⟨_, hb cdv A outer s H E hr (takes_of rfl rfl rfl rfl), ?_⟩
  obtain ⟨hl, ι, ds, S0, sr, r, p⟩ := h
  refine ⟨ι, _, S0, sr, er_start r (by rw [hl]; exact hN), ?_⟩
  unfold fnF at p
  show PostS K mg (wE E) ι H (body (ds.map some ++ List.replicate (N.length - ds.length) none) S0) _
  cases q : body (ds.map some ++ List.replicate (N.length - ds.length) none) S0 with
  | nx e S' => rw [q] at p; exact fun ι' H' σ' e1 s1 _ => p ι' H' .non e1 s1 .non
  | rt d S' => rw [q] at p; exact p
  | ex c fs e S' => rw [q] at p; exact fun ι' H' σ' dd C gs e1 s1 _ => p ι' H' dd C gs e1 s1
  | bk e S' => rw [q] at p; exact p.elim
  | ct e S' => rw [q] at p; exact p.elim
  | bad => rw [q] at p; exact p.elim
end
/-- f(..): the written arguments, then the defaults -/
def dCall (F : FD) (dds : List D) (a : DenA) : Den := fun env S => (a env S).bind fun ds S1 => F (ds ++ dds) S1
/-- constants for defaults -/
inductive Flats : List V → List D → Prop
  | nil : Flats [] []
  | cons {v : V} {d : D} {vs : List V} {ds : List D} : Flat v d → Flats vs ds → Flats (v :: vs) (d :: ds)
theorem Flats.rps {K : PySem.W.Frag} {H : Hp} {ι : Em} : ∀ {vs : List V} {ds : List D}, Flats vs ds → Rps K H ι vs ds
  | _, _, .nil => .nil
  | _, _, .cons h hs => .cons h.rp hs.rps
section
variable {X : Cx} {W : WX} {k : Nat} {f : Addr} {fd : FuncData} {ps : List Str} {F : FD} {dvs : List V} {dds : List D} {us : List Value} {x : Str} {p pos : Pos} {e : Expr} {es : List Expr} {da : DenA}
theorem rd_call {K : PySem.W.Frag} {mg : Str → Option Value} {σ : L2.St} {H : Hp} {Q : VK} {n : Nat} (fl : Flats dvs dds) (hn : ∀ ds S, ds.length + dds.length ≠ n → F (ds ++ dds) S = .bad) (h : rd K mg W (dCall F dds da) σ H Q) : tCallSD (spOf K mg n F) dvs (WE W) (rdA K mg W da) σ H Q := by
  obtain ⟨ι, env, S, s, er, q⟩ := h
  refine ⟨ι, env, S, s, er, (Post.bind (Rel' := Rps K) q).mono ?_⟩
  rintro xs H1 ⟨ι1, ds, S1, e1, s1, r1, p1⟩
  have r2 := r1.append (fl.rps (K := K) (H := H1) (ι := ι1))
  by_cases hl : ds.length + dds.length = n
  · exact ⟨by rw [r2.length, List.length_append]; exact hl, ι1, _, S1, s1, r2, Post.wish (E := WE W σ) p1 fun _ _ _ h => h⟩
  · rw [hn ds S1 hl] at p1; exact p1.elim
/-- a call's result where the number of arguments is right -/
def arity (n : Nat) (F : FD) : FD := fun ds S => if ds.length = n then F ds S else .bad
theorem e_call {n : Nat} (Fk : FnZ X.prog X.w X.K X.mg X.base k f fd ps F) (hr : Room k X.A) (hm : X.mg x = some (.ref f)) (hk : PySem.W.keepIn X.K (.ref f) = true) (hb : Binds X.K fd ps us) (hd : Vals dvs us) (fl : Flats dvs dds) (tk : Takes X W) (ha : AA X W (e :: es) da) (hn : ps.length = n := by rfl) (hg : Gl X x := by rfl)
    (hdb : (x == ("__debug__" : Str)) = false := by decide) (he : starEach (e :: es) X.env = (false, eval e X.env) :: starEach es X.env := by rfl) (hpl : (backTo pos (starEach es X.env)).any (·.1) = false := by rfl) :
    EE X W (.Call (.Name x p) (e :: es) [] pos) (dCall (arity n F) dds da) := by
  subst hn
  have F2 : FnOk X.prog X.w X.K X.mg X.base (L2.CX X.prog X.w) k f fd ps (spOf X.K X.mg ps.length (arity ps.length F)) := Fk.imp fun vs H Q E h => by
    obtain ⟨h1, ι, ds, S, s, r, q⟩ := h
    unfold arity at q
    rw [if_pos (by rw [← r.length]; exact h1)] at q
    exact ⟨h1, ι, ds, S, s, r, q⟩
  refine PE.imp (pe_callSD F2 hr hg hm hk hb hd (fun σ => passAt tk σ) ha hdb he hpl) fun σ H Q h => rd_call fl (fun ds S hn => ?_) h
  unfold arity
  rw [if_neg (by rw [List.length_append]; exact hn)]
end

/-! ### methods of built-in types -/
inductive Mt where
  | list | str
def Mt.nm : Mt → String
  | .list => "list" | .str => "str"
def tyD : Mt → D → Sto → Bool
  | .list, x, S => (lstOf S x).isSome
  | .str, .str _, _ => true
  | _, _, _ => false
def dBM (t : Mt) (f : D → List D → Sto → R D) (o : Den) (a : DenA) : Den := fun env S => (o env S).bind fun x S1 => if tyD t x S1 = true then (a env S1).bind fun ys S2 => f x ys S2 else .bad
def dBM0 (t : Mt) (f : D → List D → Sto → R D) (o : Den) : Den := fun env S => (o env S).bind fun x S1 => if tyD t x S1 = true then f x [] S1 else .bad
def MzS (K : PySem.W.Frag) (r : V → List V → Hp → VK → Prop) (f : D → List D → Sto → R D) : Prop :=
  ∀ (mg : Str → Option Value) (W : WX) (σ : L2.St) (ι : Em) (H : Hp) (S : Sto) (x : V) (dx : D) (ys : List V) (dys : List D) (Q : VK), Sr K H ι S → Rp K H ι x dx → Rps K H ι ys dys → Post K mg (Rp K) W σ ι H (f dx dys S) Q → r x ys H Q
section
variable {X : Cx} {W : WX} {o e : Expr} {es : List Expr} {d : Den} {da : DenA} {apos cpos : Pos} {name : Str} {id : String} {r : V → List V → Hp → VK → Prop} {f : D → List D → Sto → R D}
theorem tyD_ok {K : PySem.W.Frag} {H : Hp} {ι : Em} {S : Sto} {v : V} {x : D} {t : Mt} (s : Sr K H ι S) (r : Rp K H ι v x) (h : tyD t x S = true) : tyV K t.nm v H := by
  cases t with
  | list =>
    simp only [tyD, Option.isSome_iff_exists] at h
    obtain ⟨xs, e⟩ := h
    obtain ⟨a, vs, rfl, hs, _⟩ := lst_inv s r e
    exact .inl ⟨rfl, vs, hs⟩
  | str =>
    cases x with
    | str z => cases r; exact rfl
    | _ => cases h
theorem e_bm (t : Mt) (pa : PlainAttrs t.nm) (slot : Slot t.nm name id) (hty : typeOf (.builtin id) = pure (.type "method_descriptor")) (hm : MtR X id r) (hf : MzS X.K r f) (ho : EE X W o d) (ha : AA X W (e :: es) da)
    (hbase : attributeBase o name X.env (eval o X.env) = eval o X.env := by rfl)
    (hfew : ((backTo cpos (starEach (e :: es) X.env)).all (fun x => !x.1) && (backToKw cpos (keywordEach [] X.env)).all (fun x => x.1.isSome) && decide ((e :: es).length + ([] : List Keyword).length + (if ([] : List Keyword).isEmpty then 0 else 1) < 30)) = true := by rfl)
    (hline : (apos.endLine == cpos.line) = true := by rfl) (hs : starEach (e :: es) X.env = (false, eval e X.env) :: starEach es X.env := by rfl) (hplain : (backTo cpos (starEach es X.env)).any (·.1) = false := by rfl) :
    EE X W (.Call (.Attribute o name apos) (e :: es) [] cpos) (dBM t f d da) := PE.imp (pe_bm pa slot hty hm ho ha hbase hfew hline hs hplain) fun σ H Q h => by
  obtain ⟨ι, env, S, s, er, p⟩ := h
  refine ⟨ι, env, S, s, er, (Post.bind (Rel' := Rp X.K) p).mono ?_⟩
  rintro x H1 ⟨ι1, dx, S1, e1, s1, r1, p1⟩
  split at p1
  · rename_i ht
    refine ⟨tyD_ok s1 r1 ht, ι1, env, S1, s1, er.ext e1, (Post.bind (Rel' := Rps X.K) p1).mono ?_⟩
    rintro ys H2 ⟨ι2, dys, S2, e2, s2, r2, p2⟩
    exact hf _ _ σ ι2 H2 S2 x dx ys dys Q s2 (r1.ext e2) r2 p2
  · exact p1.elim
theorem e_bm0 (t : Mt) (pa : PlainAttrs t.nm) (slot : Slot t.nm name id) (hty : typeOf (.builtin id) = pure (.type "method_descriptor")) (hm : MtR X id r) (hf : MzS X.K r f) (ho : EE X W o d)
    (hbase : attributeBase o name X.env (eval o X.env) = eval o X.env := by rfl) (hline : (apos.endLine == cpos.line) = true := by rfl) :
    EE X W (.Call (.Attribute o name apos) [] [] cpos) (dBM0 t f d) := PE.imp (pe_bm0 pa slot hty hm ho hbase hline) fun σ H Q h => by
  obtain ⟨ι, env, S, s, er, p⟩ := h
  refine ⟨ι, env, S, s, er, (Post.bind (Rel' := Rp X.K) p).mono ?_⟩
  rintro x H1 ⟨ι1, dx, S1, e1, s1, r1, p1⟩
  split at p1
  · rename_i ht
    exact ⟨tyD_ok s1 r1 ht, hf _ _ σ ι1 H1 S1 x dx [] [] Q s1 r1 .nil p1⟩
  · exact p1.elim
end
def fApp (x : D) (ys : List D) (S : Sto) : R D := match x, ys with
  | .ref n, [y] => match S[n]? with
    | some (.lst xs) => if FitS xs.length then .ok .non (S.set n (.lst (xs ++ [y]))) else .bad
    | none => .bad
  | _, _ => .bad
def fPop (x : D) (ys : List D) (S : Sto) : R D := match x, ys with
  | .ref n, [] => match S[n]? with
    | some (.lst xs) => match xs[xs.length - 1]? with
      | some y => .ok y (S.set n (.lst xs.dropLast))
      | none => .bad
    | none => .bad
  | _, _ => .bad
def fRevM (x : D) (ys : List D) (S : Sto) : R D := match x, ys with
  | .ref n, [] => match S[n]? with
    | some (.lst xs) => .ok .non (S.set n (.lst xs.reverse))
    | none => .bad
  | _, _ => .bad
section
variable {K : PySem.W.Frag}
theorem refL {H : Hp} {ι : Em} {S : Sto} {v : V} {n : Nat} {xs : List D} (s : Sr K H ι S) (r : Rp K H ι v (.ref n)) (e : S[n]? = some (.lst xs)) : ∃ a vs, v = .ref a ∧ ι.c[n]? = some a ∧ H a = some (.lst vs) ∧ Rps K H ι vs xs := by
  obtain ⟨a, rfl, ea⟩ := r.ref_inv
  obtain ⟨vs, h1, h2⟩ := s.list ea e
  exact ⟨a, vs, rfl, ea, h1, h2⟩
theorem Rps.dropLast {H : Hp} {ι : Em} {vs : List V} {ds : List D} (r : Rps K H ι vs ds) : Rps K H ι vs.dropLast ds.dropLast := by
  rw [List.dropLast_eq_take, List.dropLast_eq_take, r.length]; exact r.take _
theorem sApp : MzS K rAppend fApp := by
  intro mg W σ ι H S x dx ys dys Q s r rs p
  unfold fApp at p
  split at p
  · rename_i n y
    split at p
    · rename_i xs e
      split at p
      · rename_i hl
        obtain ⟨a, vs, rfl, ea, h1, h2⟩ := refL s r e
        obtain ⟨u, rfl, ru⟩ := rps1 rs
        exact ⟨a, vs, u, rfl, rfl, h1, by rw [h2.length]; exact hl, p ι _ _ (Ext.put ea) (s.put ea (h2.append (.cons ru .nil))) .non⟩
      · exact p.elim
    · exact p.elim
  · exact p.elim
theorem sPop : MzS K rPop fPop := by
  intro mg W σ ι H S x dx ys dys Q s r rs p
  unfold fPop at p
  split at p
  · rename_i n
    cases rs
    split at p
    · rename_i xs e
      split at p
      · rename_i y e2
        obtain ⟨a, vs, rfl, ea, h1, h2⟩ := refL s r e
        obtain ⟨u, e3, ru⟩ := h2.get e2
        exact ⟨a, vs, u, rfl, rfl, h1, by rw [h2.length]; exact e3, p ι _ _ (Ext.put ea) (s.put ea h2.dropLast) (ru.ext (Ext.put ea))⟩
      · exact p.elim
    · exact p.elim
  · exact p.elim
theorem sRevM : MzS K rReverse fRevM := by
  intro mg W σ ι H S x dx ys dys Q s r rs p
  unfold fRevM at p
  split at p
  · rename_i n
    cases rs
    split at p
    · rename_i xs e
      obtain ⟨a, vs, rfl, ea, h1, h2⟩ := refL s r e
      exact ⟨a, vs, rfl, rfl, h1, p ι _ _ (Ext.put ea) (s.put ea h2.reverse) .non⟩
    · exact p.elim
  · exact p.elim
end
/-! ### all, any of a list of bools -/
def boolsOf : List D → Option (List Bool)
  | [] => some []
  | .bl b :: xs => (boolsOf xs).map fun bs => b :: bs
  | _ :: _ => none
def fAll (xs : List D) (S : Sto) : R D := match xs with
  | [x] => match lstOf S x with
    | some ys => match boolsOf ys with
      | some bs => .ok (.bl (bs.all id)) S
      | none => .bad
    | none => .bad
  | _ => .bad
def fAny (xs : List D) (S : Sto) : R D := match xs with
  | [x] => match lstOf S x with
    | some ys => match boolsOf ys with
      | some bs => .ok (.bl (bs.any id)) S
      | none => .bad
    | none => .bad
  | _ => .bad
section
variable {K : PySem.W.Frag}
theorem bools_rp {H : Hp} {ι : Em} : ∀ {ds : List D} {vs : List V} {bs : List Bool}, Rps K H ι vs ds → boolsOf ds = some bs → vs = bs.map V.bl
  | [], _, _, r, e => by cases r; cases e; rfl
  | d :: ds, _, _, r, e => by
    cases r with
    | cons r rs =>
      cases d with
      | bl b =>
        rw [boolsOf] at e
        cases q : boolsOf ds with
        | none => rw [q] at e; cases e
        | some bs => rw [q] at e; cases e; cases r; rw [bools_rp rs q]; rfl
      | _ => cases e
theorem sAll : CbS K (rAll K) fAll := by
  intro mg W σ ι H S xs ds Q s r p
  unfold fAll at p
  split at p
  · obtain ⟨x, rfl, r0⟩ := rps1 r
    split at p
    · rename_i ys e
      split at p
      · rename_i bs e2
        obtain ⟨a, vs, rfl, hs, rs⟩ := lst_inv s r0 e
        rw [bools_rp rs e2] at hs
        exact ⟨a, bs, rfl, hs, p.ret s (.bl _)⟩
      · exact p.elim
    · exact p.elim
  · exact p.elim
theorem sAny : CbS K (rAny K) fAny := by
  intro mg W σ ι H S xs ds Q s r p
  unfold fAny at p
  split at p
  · obtain ⟨x, rfl, r0⟩ := rps1 r
    split at p
    · rename_i ys e
      split at p
      · rename_i bs e2
        obtain ⟨a, vs, rfl, hs, rs⟩ := lst_inv s r0 e
        rw [bools_rp rs e2] at hs
        exact ⟨a, bs, rfl, hs, p.ret s (.bl _)⟩
      · exact p.elim
    · exact p.elim
  · exact p.elim
end

/-! ### [e for t in xs if c] -/
def wipeE (env : Env) : List Nat → Env
  | [] => env
  | v :: vs => (wipeE env vs).set v none
theorem Er.wipe {K : PySem.W.Frag} {H : Hp} {ι : Em} {σ : L2.St} {env : Env} (h : Er K H ι σ env) : ∀ vs : List Nat, Er K H ι (L2.wipe σ vs) (wipeE env vs)
  | [] => h
  | v :: vs => (Er.wipe h vs).unset
open Classical in
noncomputable def lcGo (g : Sto → Prop) (t : Tg) (c : DenT) (elt : Den) (env : Env) : List D → List D → Sto → R (List D)
  | [], acc, S => if g S then .ok acc S else .bad
  | x :: xs, acc, S => if g S then match t.run x env with
    | some env' => match c env' S with
      | .ok b S1 => if b then (match elt env' S1 with
        | .ok y S2 => if FitS acc.length then lcGo g t c elt env xs (acc ++ [y]) S2 else .bad
        | _ => .bad) else lcGo g t c elt env xs acc S1
      | _ => .bad
    | none => .bad
    else .bad
def lcEnd (cell : Bool) (ys : List D) (S2 : Sto) : R D := if cell then .ok (.ref S2.length) (S2 ++ [.lst ys]) else .ok (.lst ys) S2
/-- cell: the new list is put into the store at the end -/
noncomputable def dLc (cell : Bool) (src : DenI) (vs : List Nat) (t : Tg) (c : DenT) (elt : Den) : Den := fun env S => (src env S).bind fun a S1 => (lcGo a.2 t c elt (wipeE env vs) a.1 [] S1).bind (lcEnd cell)
theorem wipe_sets : ∀ {ws : List (Nat × V)} {σ : L2.St} {vs : List Nat}, (∀ p ∈ ws, p.1 ∈ vs) → L2.wipe (setsV σ ws) vs = L2.wipe σ vs
  | [], _, _, _ => rfl
  | (i, v) :: r, σ, vs, h => by
    show L2.wipe (setsV (σ.set i (some v)) r) vs = _
    rw [wipe_sets fun p hp => h p (List.mem_cons_of_mem _ hp)]
    have hi : i ∈ vs := h (i, v) List.mem_cons_self
    clear h
    induction vs with
    | nil => cases hi
    | cons u us ih =>
      show (L2.wipe (σ.set i (some v)) us).set u none = (L2.wipe σ us).set u none
      by_cases hm : i ∈ us
      · rw [ih hm]
      · have e : i = u := by
          rcases List.mem_cons.mp hi with e | e
          · exact e
          · exact absurd e hm
        subst e
        have g : ∀ (τ : L2.St) (us : List Nat), i ∉ us → L2.wipe (τ.set i (some v)) us = (L2.wipe τ us).set i (some v) := fun τ us hu => by
          induction us with
          | nil => rfl
          | cons w ws ih2 =>
            show (L2.wipe (τ.set i (some v)) ws).set w none = ((L2.wipe τ ws).set w none).set i (some v)
            rw [ih2 fun z => hu (List.mem_cons_of_mem _ z)]
            exact List.set_comm _ _ fun z => hu (z ▸ List.mem_cons_self)
        rw [g σ us hm, List.set_set]
section
variable {X : Cx} {W : WX}
abbrev W0 : WX := fun _ _ _ _ => False
theorem wipe_idem (σ : L2.St) (vs : List Nat) : L2.wipe (L2.wipe σ vs) vs = L2.wipe σ vs := by
  have g : ∀ (us : List Nat) (τ : L2.St), (∀ u ∈ us, ∀ j, j < τ.length → u = j → τ[j]? = some none) → L2.wipe τ us = τ := fun us => by
    induction us with
    | nil => intro τ _; rfl
    | cons u us ih =>
      intro τ h
      show (L2.wipe τ us).set u none = τ
      rw [ih τ fun w hw => h w (List.mem_cons_of_mem _ hw)]
      apply List.ext_getElem?
      intro j
      by_cases e : u = j
      · subst e
        by_cases hl : u < τ.length
        · rw [List.getElem?_set_self hl, h u List.mem_cons_self u hl rfl]
        · rw [List.getElem?_eq_none (by simpa using hl), List.getElem?_eq_none (by simpa using hl)]
      · rw [List.getElem?_set_ne e]
  have k : ∀ (us : List Nat) (u : Nat) (j : Nat), u ∈ us → u = j → j < (L2.wipe σ us).length → (L2.wipe σ us)[j]? = some none := fun us => by
    induction us with
    | nil => intro u j h; cases h
    | cons w ws ih =>
      intro u j hu e hl
      subst e
      show ((L2.wipe σ ws).set w none)[u]? = some none
      by_cases e2 : w = u
      · subst e2
        rw [List.getElem?_set_self (by rw [L2.wipe_length] at hl ⊢; exact hl)]
      · rw [List.getElem?_set_ne e2]
        rcases List.mem_cons.mp hu with q | q
        · exact absurd q.symm e2
        · exact ih u u q rfl (by rw [L2.wipe_length] at hl ⊢; exact hl)
  exact g vs _ fun u hu j hl e => k vs u j hu e hl
theorem rd_lc {K : PySem.W.Frag} {mg : Str → Option Value} {cell : Bool} {src : DenI} {vs : List Nat} {t : Tg} {c : DenT} {elt : Den} (hsl : ∀ i ∈ t.sl, i ∈ vs) {σ : L2.St} {H : Hp} {Q : VK} (h : rd K mg W (dLc cell src vs t c elt) σ H Q) :
    tLc (rdI K mg W src) (rdG K t) (rdT K mg W0 c) (rd K mg W0 elt) vs σ H Q := by
  obtain ⟨ι, env, S, s, er, p⟩ := h
  refine ⟨ι, env, S, s, er, (Post.bind (Rel' := fun H1 ι1 J a => ItOk K J a.1 a.2 ι1 H1) p).mono ?_⟩
  rintro J H1 ⟨ι1, ⟨xs, g⟩, S1, e1, s1, r1, p1⟩
  have erw := (er.ext e1).wipe vs
  clear p er e1 s
  simp only at r1 p1
  intro Da hD
  have hDb : Da ∉ ι1.b := fun z => s1.ban _ z hD
  refine ⟨fun i m H => m = xs.length - i ∧ i ≤ xs.length ∧ ∃ ι2 S2 acc us, Ext ι1 H1 ι2 H ∧ Sr K H ι2 S2 ∧ Da ∈ ι2.b ∧ Da ∉ ι2.c ∧ H Da = some (.lst us) ∧ Rps K H ι2 us acc ∧
      Post K mg (Rp K) W σ ι1 H1 ((lcGo g t c elt (wipeE env vs) (xs.drop i) acc S2).bind (lcEnd cell)) Q,
    ⟨xs.length, rfl, Nat.zero_le _, ι1.ban Da, S1, [], [], Ext.banned hD, s1.banned hD, List.mem_cons_self, s1.outC hD, upd_same, .nil, p1⟩, ?_⟩
  rintro i m H2 ⟨rfl, hi, ι2, S2, acc, us, e2, s2, hb, hc, hd, ra, p2⟩
  by_cases hlt : i < xs.length
  · rw [List.drop_eq_getElem_cons hlt] at p2
    simp only [lcGo] at p2
    split at p2
    · rename_i hg2
      obtain ⟨go, gy⟩ := r1.go ι2 H2 S2 i _ e2 s2 hg2 (List.getElem?_eq_getElem hlt)
      refine .inr ⟨go, fun H' => ∃ ι2 S2 acc us, Ext ι1 H1 ι2 H' ∧ Sr K H' ι2 S2 ∧ Da ∈ ι2.b ∧ Da ∉ ι2.c ∧ H' Da = some (.lst us) ∧ Rps K H' ι2 us acc ∧
        Post K mg (Rp K) W σ ι1 H1 ((lcGo g t c elt (wipeE env vs) (xs.drop (i + 1)) acc S2).bind (lcEnd cell)) Q,
        fun H' q => ⟨xs.length - (i + 1), by omega, rfl, hlt, q⟩, fun v H3 y => ?_⟩
      obtain ⟨e3, s3, r3⟩ := gy v H3 y
      split at p2
      · rename_i env' e5
        refine ⟨ι2, wipeE env vs, _, env', (erw.ext e2).ext e3, r3, e5, fun ws hw er' => ⟨?_, ?_⟩⟩
        · rw [wipe_sets fun p hp => hsl _ (hw p hp), wipe_idem]
        have hd3 : H3 Da = some (.lst us) := e3.keep _ _ hc hd
        refine ⟨ι2, env', S2, s3, er', ?_⟩
        split at p2
        · rename_i b S3 ec
          rw [ec]
          intro ι3 H4 b' e4 s4 hbb
          subst hbb
          have hc4 : Da ∉ ι3.c := e4.outC hc hd3
          have hd4 : H4 Da = some (.lst us) := e4.keep _ _ hc hd3
          have hb4 : Da ∈ ι3.b := by obtain ⟨nb, q, _⟩ := e4.ban; rw [q]; exact List.mem_append_right _ hb
          have e14 := (e2.tr s2 e3).tr s3 e4
          cases b' with
          | false =>
            rw [if_neg Bool.false_ne_true]
            exact ⟨ι3, S3, acc, us, e14, s4, hb4, hc4, hd4, (ra.ext e3).ext e4, p2⟩
          | true =>
            rw [if_pos rfl]
            simp only [if_true] at p2
            refine ⟨ι3, env', S3, s4, er'.ext e4, ?_⟩
            split at p2
            · rename_i y1 S5 ee
              rw [ee]
              intro ι4 H5 yv e5' s5 r5
              have hc5 : Da ∉ ι4.c := e5'.outC hc4 hd4
              have hd5 : H5 Da = some (.lst us) := e5'.keep _ _ hc4 hd4
              have hb5 : Da ∈ ι4.b := by obtain ⟨nb, q, _⟩ := e5'.ban; rw [q]; exact List.mem_append_right _ hb4
              split at p2
              · rename_i hl
                have ra5 := ((ra.ext e3).ext e4).ext e5'
                have e15 := e14.tr s4 e5'
                refine ⟨us, hd5, by rw [ra5.length]; exact hl, ι4, S5, acc ++ [y1], us ++ [yv], ?_, s5.ban2 hb5 hc5, hb5, hc5, upd_same, (ra5.append (.cons r5 .nil)).ban2 hb5, p2⟩
                exact ⟨e15.ban, e15.pre, fun a o ha h => by rw [upd_ne (ne_of_none h hD)]; exact e15.keep a o ha h⟩
              · exact p2.elim
            · exact p2.elim
        · exact p2.elim
      · exact p2.elim
    · exact p2.elim
  · have hi' : i = xs.length := by omega
    subst hi'
    rw [List.drop_length] at p2
    simp only [lcGo] at p2
    split at p2
    · rename_i hg2
      refine .inl ⟨r1.stop ι2 H2 S2 e2 s2 hg2, ?_⟩
      rcases e2.free (p := Da) with ef | ef
      · cases cell with
        | false =>
          exact p2 (ι2.free Da) H2 (.ref Da) ef s2.free (.lst (fun z => by
            rcases z with z | z
            · exact hc z
            · simpa using (List.mem_filter.mp z).2) hd (ra.less (fun _ => Em.free_has) fun _ _ z => z))
        | true =>
          refine p2 ((ι2.free Da).push Da) H2 (.ref Da) ⟨ef.ban, ?_, ef.keep⟩ (s2.adopt hb hc hd ra) (.ref ?_)
          · obtain ⟨new, q, k⟩ := ef.pre
            replace q : ι2.c = ι1.c ++ new := q
            refine ⟨new ++ [Da], ?_, fun p hp => ?_⟩
            · show ι2.c ++ [Da] = _
              rw [← List.append_assoc, ← q]
            · rcases List.mem_append.mp hp with hp | hp
              · exact k p hp
              · cases List.mem_singleton.mp hp; exact hD
          · show (ι2.c ++ [Da])[S2.length]? = some Da
            rw [← s2.len]; simp
      · exact absurd ef hDb
    · exact p2.elim
def tYesD : DenT := fun _ S => .ok true S
theorem rdT_yes {K : PySem.W.Frag} {mg : Str → Option Value} {W : WX} {σ : L2.St} {H : Hp} {Q : Bool → Hp → Prop} (h : rdT K mg W tYesD σ H Q) : tYes σ H Q := by
  obtain ⟨ι, env, S, s, er, p⟩ := h
  exact p.ret s rfl
end
end
end Z
end

section
set_option Elab.async false
set_option linter.all false
set_option maxRecDepth 100000
set_option maxHeartbeats 1000000
namespace Z
noncomputable section
open PySem PySem.Spec PyProof.Rows L2

/-! ### comprehensions, in short -/
section
variable {X : Cx} {W : WX} {tg iter elt c : Expr} {src : DenI} {t : Tg} {dc : DenT} {d : Den} {scope : Scope} {own : List (Str × Nat)} {pos : Pos}
theorem ts_nil {X : Cx} {K : PySem.W.Frag} {mg : Str → Option Value} : PTs X [] (rdT K mg W0 tYesD) := ⟨fun pins s σ H Q I h => pts_nil.run pins s σ H Q I (rdT_yes h)⟩
theorem ts_one {X : Cx} {K : PySem.W.Frag} {mg : Str → Option Value} (h : PT X c (rdT K mg W0 dc)) : PTs X [c] (rdT K mg W0 dc) := pts_one h
theorem e_lc (cell : Bool) (hc : X.calm = true) (hN : X.N.Nodup) {ifs : List Expr} (hi : II X W tg iter src) (ok : BlkOk X.N X.env.scope scope own)
    (hg : ∀ (s : Shared) (H : Hp) (C : Addr) (cl : List (Str × Addr)) (fp : List Addr), PG (X.blk s H scope (compEnvC scope cl C X.env) fp) tg (rdG X.K t)) (ht : ∀ (s : Shared) (H : Hp) (C : Addr) (cl : List (Str × Addr)) (fp : List Addr), PTs (X.blk s H scope (compEnvC scope cl C X.env) fp) ifs (rdT X.K X.mg W0 dc))
    (he : ∀ (s : Shared) (H : Hp) (C : Addr) (cl : List (Str × Addr)) (fp : List Addr), PE (X.blk s H scope (compEnvC scope cl C X.env) fp) elt (rd X.K X.mg W0 d)) (hsl : ∀ i ∈ t.sl, i ∈ own.map (·.2)) (hs : ∀ x, foldedSetIterable iter X.env x = pure x := by intro _; rfl) :
    EE X W (.ListComp elt [⟨tg, iter, ifs, 0⟩] scope pos) (dLc cell src (own.map (·.2)) t dc d) := PE.imp (pe_lc hc hN hi ok hg ht he hs) fun σ H Q h => rd_lc hsl h
theorem s_setLc (cell : Bool) {i : Nat} {y : Str} {py spos : Pos} (hc : X.calm = true) (hN : X.N.Nodup) (hy : X.N[i]? = some y) (hyl : X.env.scope.names.lookup y = some .local) {ifs : List Expr}
    (hsw : swapsWith (.ListComp elt [⟨tg, iter, ifs, 0⟩] scope pos) (some (.Name y py)) spos.line X.env = pure true) (hi : II X W tg iter src) (ok : BlkOk X.N X.env.scope scope own)
    (hg : ∀ (s : Shared) (H : Hp) (C : Addr) (cl : List (Str × Addr)) (fp : List Addr), PG (X.blk s H scope (compEnvC scope cl C X.env) fp) tg (rdG X.K t)) (ht : ∀ (s : Shared) (H : Hp) (C : Addr) (cl : List (Str × Addr)) (fp : List Addr), PTs (X.blk s H scope (compEnvC scope cl C X.env) fp) ifs (rdT X.K X.mg W0 dc))
    (he : ∀ (s : Shared) (H : Hp) (C : Addr) (cl : List (Str × Addr)) (fp : List Addr), PE (X.blk s H scope (compEnvC scope cl C X.env) fp) elt (rd X.K X.mg W0 d)) (hsl : ∀ i ∈ t.sl, i ∈ own.map (·.2)) (hs : ∀ x, foldedSetIterable iter X.env x = pure x := by intro _; rfl) :
    SS X W (.Assign [.Name y py] (.ListComp elt [⟨tg, iter, ifs, 0⟩] scope pos) spos) (sSet i (dLc cell src (own.map (·.2)) t dc d)) := PS.imp (ps_setLc hc hN hy hyl hsw hi ok hg ht he hs) fun Dn σ H h => by
  obtain ⟨ι, env, S, s, er, p⟩ := h
  have q := PostS.lift (Rel := Rp X.K) p er
  refine rd_lc hsl ⟨ι, env, S, s, er, q.mono ?_⟩
  rintro x H1 ⟨ι1, dx, S1, e1, s1, r1, p1⟩
  exact p1.nx s1 ((er.ext e1).set r1)
end

/-! ### errors of the program's own -/
/-- what the written part says of an error class c at C with the fields ks -/
structure ErrC (K : PySem.W.Frag) (mg : Str → Option Value) (c : Str) (C : Addr) (ks : List Str) : Prop where
  gl : mg c = some (.ref C)
  oex : OexC K C
  xf : XfC K C
  cl : (PySem.W.clsIn K C).isSome = true
  ca : PySem.W.findIn K (.ref C) "__class__" = some (some (.builtin "object.__class__"))
  cn : PySem.W.specialIn K (.builtin "object.__class__") "__get__" = some (some (.builtin "getset_descriptor.__get__"))
  ct : PySem.W.takesIn K (.builtin "object.__class__") = some true
  cm : PySem.W.mroIn K C (.type "object") = some true
  no : ∀ f ∈ ks, PySem.W.findIn K (.ref C) f = some none
/-- __init__ with one, two fields -/
def spI1 (K : PySem.W.Frag) (C : Addr) (f : Str) : Sp := fun vs H Q _ => ∃ a y, vs = [.ref a, y] ∧ OexC K C ∧ PySem.W.findIn K (.ref C) f = some none ∧ H a = some (exo a C none) ∧ ∀ dx, H dx = none → dx ≠ a → Q .non (upd (upd H dx (exd dx [(f, y)])) a (exo a C (some dx)))
def spI2 (K : PySem.W.Frag) (C : Addr) (f g : Str) : Sp := fun vs H Q _ => ∃ a y z, vs = [.ref a, y, z] ∧ OexC K C ∧ PySem.W.findIn K (.ref C) f = some none ∧ PySem.W.findIn K (.ref C) g = some none ∧ H a = some (exo a C none) ∧
  ∀ dx, H dx = none → dx ≠ a → Q .non (upd (upd (upd H dx (exd dx [(f, y)])) a (exo a C (some dx))) dx (exd dx [(g, z), (f, y)]))
theorem read_I1 {K : PySem.W.Frag} {C : Addr} {f : Str} {vs : List V} {H : Hp} {Q : VK} {E : XK} {N : List Str} (h : spI1 K C f vs H Q E) (hN : N.length = 2) : (tOst K f (tVar 0) (tVar 1)) { nx := fun _ H' => Q .non H', rt := Q } (L2.start N vs) H := by
  obtain ⟨a, y, rfl, T, hf, ha, q⟩ := h
  refine ⟨y, by simp [L2.start], .ref a, by simp [L2.start], a, C, rfl, T, hf, .inl ⟨ha, fun dx h1 h2 => q dx h1 h2⟩⟩
theorem read_I2 {K : PySem.W.Frag} {C : Addr} {f g : Str} {vs : List V} {H : Hp} {Q : VK} {E : XK} {N : List Str} (h : spI2 K C f g vs H Q E) (hN : N.length = 3) : (tSeq (tOst K f (tVar 0) (tVar 1)) (tOst K g (tVar 0) (tVar 2))) { nx := fun _ H' => Q .non H', rt := Q } (L2.start N vs) H := by
  obtain ⟨a, y, z, rfl, T, hf, hg, ha, q⟩ := h
  refine ⟨y, by simp [L2.start], .ref a, by simp [L2.start], a, C, rfl, T, hf, .inl ⟨ha, fun dx h1 h2 => ?_⟩⟩
  refine ⟨z, by simp [L2.start], .ref a, by simp [L2.start], a, C, rfl, T, hg, .inr ⟨dx, [(f, y)], upd_same, ?_, by simp, q dx h1 h2⟩⟩
  rw [upd_ne h2, upd_same]
/-- raise c(..): the last field first -/
def sRaise (c : Str) (ks : List Str) (a : DenA) : SDen := fun env S => (a env S).lift env fun ds S1 => if ds.length = ks.length then .ex c ((ks.zip ds).reverse) env S1 else .bad
section
variable {X : Cx} {W : WX} {e : Expr} {es : List Expr} {da : DenA} {pos pos2 p : Pos} {c : Str} {C fI : Addr} {k : Nat} {fd : FuncData} {ps : List Str}
theorem del_new {H : Hp} {a d : Addr} {o : HO} (h : H a = none) (hd : d ≠ a) : upd (del H a) d o = upd H d o := by
  funext b
  by_cases hb : b = d
  · subst hb; rw [upd_same, upd_same]
  · rw [upd_ne hb, upd_ne hb]
    by_cases h2 : b = a
    · subst h2; rw [del_same, h]
    · rw [del_ne h2]
/-- the raised error's end -/
theorem raise_end {K : PySem.W.Frag} {mg : Str → Option Value} {σ : L2.St} {ι : Em} {H : Hp} {S : Sto} {env : Env} {fs : List (Str × D)} {Dn : Ends} {us : List V} {a dx : Addr} (p : PostS K mg W ι H (.ex c fs env S) Dn) (s : Sr K H ι S) (er : Er K H ι σ env) (hm : mg c = some (.ref C)) (ha : H a = none) (hd : H dx = none) (hda : dx ≠ a)
    (r : Rps K H ι us (fs.map (·.2))) {gs : List (Str × V)} (hg : gs = (fs.map (·.1)).zip us) : W (.ref C) (some dx) σ (upd (del H a) dx (.xd gs)) := by
  subst hg
  rw [del_new ha hda]
  exact p ι _ σ dx C us (Ext.new hd) (s.new hd) (er.ext (Ext.new hd)) hm upd_same (s.out hd) (r.ext (Ext.new hd))
theorem s_raise1 {f : Str} (T : ErrC X.K X.mg c C [f]) (iC : PySem.W.findIn X.K (.ref C) "__init__" = some (some (.ref fI))) (tI : PySem.W.typeIn X.K (.ref fI) = some (.type "function"))
    (F1 : FnOk X.prog X.w X.K X.mg X.base (L2.CX X.prog X.w) k fI fd ps (spI1 X.K C f)) (hr : Room (k + 1) X.A) (hb : Binds X.K fd ps []) (tk : Takes X W) (ha : AA X W (e :: es) da) (hc : X.calm = true := by rfl) (hg : Gl X c := by rfl)
    (hdb : (c == ("__debug__" : Str)) = false := by decide) (he : starEach (e :: es) X.env = (false, eval e X.env) :: starEach es X.env := by rfl) (hpl : (backTo pos (starEach es X.env)).any (·.1) = false := by rfl) :
    SS X W (.Raise (some (.Call (.Name c p) (e :: es) [] pos)) none pos2) (sRaise c [f] da) := PS.imp (ps_raise hc tk (pmk_oex T.oex iC tI F1 hr hb .nil passL hg T.gl ha hdb he hpl)) fun Dn σ H h => by
  obtain ⟨ι, env, S, s, er, p⟩ := h
  refine ⟨ι, env, S, s, er, (PostS.lift (Rel := Rps X.K) p er).mono ?_⟩
  rintro vs H1 ⟨ι1, ds, S1, e1, s1, r1, p1⟩
  split at p1
  · rename_i hl
    match ds, hl, r1 with
    | [d], _, r1 =>
      obtain ⟨y, rfl, ry⟩ := rps1 r1
      refine ⟨by simp, fun a hna => ⟨a, y, rfl, T.oex, T.no f (by simp), upd_same, fun dx h1 h2 => ⟨rfl, dx, [(f, y)], upd_same, ?_, ?_, ?_⟩⟩⟩
      · rw [upd_ne h2, upd_same]
      · rw [upd_ne h2] at h1; exact h1
      · rw [upd_ne h2] at h1
        have e3 : upd (del (upd (upd (upd H1 a (exo a C none)) dx (exd dx [(f, y)])) a (exo a C (some dx))) a) dx (.xd [(f, y)]) = upd (del H1 a) dx (.xd [(f, y)]) := by
          funext b
          by_cases hb : b = dx
          · subst hb; rw [upd_same, upd_same]
          · rw [upd_ne hb, upd_ne hb]
            by_cases h3 : b = a
            · subst h3; rw [del_same, del_same]
            · rw [del_ne h3, del_ne h3, upd_ne h3, upd_ne hb, upd_ne h3]
        rw [e3]
        exact raise_end p1 s1 (er.ext e1) T.gl hna h1 h2 (.cons ry .nil) rfl
  · exact p1.elim
theorem s_raise2 {f g : Str} (T : ErrC X.K X.mg c C [f, g]) (iC : PySem.W.findIn X.K (.ref C) "__init__" = some (some (.ref fI))) (tI : PySem.W.typeIn X.K (.ref fI) = some (.type "function"))
    (F1 : FnOk X.prog X.w X.K X.mg X.base (L2.CX X.prog X.w) k fI fd ps (spI2 X.K C f g)) (hr : Room (k + 1) X.A) (hb : Binds X.K fd ps []) (tk : Takes X W) (ha : AA X W (e :: es) da) (hc : X.calm = true := by rfl) (hg : Gl X c := by rfl)
    (hdb : (c == ("__debug__" : Str)) = false := by decide) (he : starEach (e :: es) X.env = (false, eval e X.env) :: starEach es X.env := by rfl) (hpl : (backTo pos (starEach es X.env)).any (·.1) = false := by rfl) :
    SS X W (.Raise (some (.Call (.Name c p) (e :: es) [] pos)) none pos2) (sRaise c [f, g] da) := PS.imp (ps_raise hc tk (pmk_oex T.oex iC tI F1 hr hb .nil passL hg T.gl ha hdb he hpl)) fun Dn σ H h => by
  obtain ⟨ι, env, S, s, er, p⟩ := h
  refine ⟨ι, env, S, s, er, (PostS.lift (Rel := Rps X.K) p er).mono ?_⟩
  rintro vs H1 ⟨ι1, ds, S1, e1, s1, r1, p1⟩
  split at p1
  · rename_i hl
    match ds, hl, r1 with
    | [d, d2], _, r1 =>
      obtain ⟨y, z, rfl, ry, rz⟩ := rps2 r1
      refine ⟨by simp, fun a hna => ⟨a, y, z, rfl, T.oex, T.no f (by simp), T.no g (by simp), upd_same, fun dx h1 h2 => ⟨rfl, dx, [(g, z), (f, y)], ?_, upd_same, ?_, ?_⟩⟩⟩
      · rw [upd_ne (Ne.symm h2), upd_same]
      · rw [upd_ne h2] at h1; exact h1
      · rw [upd_ne h2] at h1
        have e3 : upd (del (upd (upd (upd (upd H1 a (exo a C none)) dx (exd dx [(f, y)])) a (exo a C (some dx))) dx (exd dx [(g, z), (f, y)])) a) dx (.xd [(g, z), (f, y)]) = upd (del H1 a) dx (.xd [(g, z), (f, y)]) := by
          funext b
          by_cases hb : b = dx
          · subst hb; rw [upd_same, upd_same]
          · rw [upd_ne hb, upd_ne hb]
            by_cases h3 : b = a
            · subst h3; rw [del_same, del_same]
            · rw [del_ne h3, del_ne h3, upd_ne hb, upd_ne h3, upd_ne hb, upd_ne h3]
        rw [e3]
        exact raise_end p1 s1 (er.ext e1) T.gl hna h1 h2 (.cons rz (.cons ry .nil)) rfl
  · exact p1.elim
end

/-! ### try: .. except c as n: .. -/
open Classical in
noncomputable def collapse (k : Addr → Addr → F) : F := if h : ∃ f, ∀ a d, k a d = f then Classical.choose h else .bad
theorem collapse_const (f : F) : collapse (fun _ _ => f) = f := by
  unfold collapse
  have h : ∃ g : F, ∀ _ _ : Addr, f = g := ⟨f, fun _ _ => rfl⟩
  rw [dif_pos h]
  exact (Classical.choose_spec h 0 0).symm
def endX (i : Nat) (f : F) : F := match f with
  | .nx e S => .nx (e.set i none) S
  | .bk e S => .bk (e.set i none) S
  | .ct e S => .ct (e.set i none) S
  | .rt d S => .rt d S
  | _ => .bad
noncomputable def sTry (c : Str) (i : Nat) (body : SDen) (h : Addr → Addr → SDen) : SDen := fun env S => match body env S with
  | .ex c' fs e S' => if c' = c then collapse fun a dd => endX i (h a dd (e.set i (some (.err a dd (fs.map (·.1)) (fs.map (·.2))))) S') else .bad
  | f => f
def dXf (a dd : Addr) (f : Str) (d : Den) : Den := fun env S => (d env S).bind fun x S1 => match x with
  | .err a' dd' ks ds => if a' = a ∧ dd' = dd then (match (ks.zip ds).lookup f with
    | some v => .ok v S1
    | none => .bad) else .bad
  | _ => .bad
def dXis (a dd : Addr) (b : Bool) (d : Den) : Den := fun env S => (d env S).bind fun x S1 => match x with
  | .err a' dd' _ _ => if a' = a ∧ dd' = dd then .ok (.bl b) S1 else .bad
  | _ => .bad
section
variable {K : PySem.W.Frag} {mg : Str → Option Value} {W : WX} {ι : Em} {H : Hp} {Dn : Ends}
theorem PostS.collapse {k : Addr → Addr → F} (h : PostS K mg W ι H (Z.collapse k) Dn) (a d : Addr) : PostS K mg W ι H (k a d) Dn := by
  unfold Z.collapse at h
  split at h
  · rename_i g
    rw [Classical.choose_spec g a d]; exact h
  · exact h.elim
theorem PostS.endX {W' : WX} {i : Nat} {f : F} (h : PostS K mg W ι H (Z.endX i f) Dn) :
    PostS K mg W' ι H f { nx := fun σ' H' => Dn.nx (σ'.set i none) H', rt := Dn.rt, bk := fun σ' H' => Dn.bk (σ'.set i none) H', ct := fun σ' H' => Dn.ct (σ'.set i none) H' } := by
  cases f with
  | nx e S' => exact fun ι2 H2 σ' e2 s2 r2 => h ι2 H2 _ e2 s2 r2.unset
  | bk e S' => exact fun ι2 H2 σ' e2 s2 r2 => h ι2 H2 _ e2 s2 r2.unset
  | ct e S' => exact fun ι2 H2 σ' e2 s2 r2 => h ι2 H2 _ e2 s2 r2.unset
  | rt d S' => exact h
  | ex c fs e S' => exact h.elim
  | bad => exact h.elim
theorem look_rp : ∀ {ks : List Str} {ds : List D} {us : List V} {f : Str} {d : D}, Rps K H ι us ds → (ks.zip ds).lookup f = some d → ∃ v, (ks.zip us).lookup f = some v ∧ Rp K H ι v d
  | [], _, _, _, _, _, e => by simp at e
  | k :: ks, [], _, _, _, _, e => by simp at e
  | k :: ks, d :: ds, _, f, d', r, e => by
    cases r with
    | cons r rs =>
      rw [List.zip_cons_cons, List.lookup_cons] at e
      rw [List.zip_cons_cons, List.lookup_cons]
      by_cases hf : (f == k) = true
      · rw [hf] at e ⊢; cases e; exact ⟨_, rfl, r⟩
      · have hf' : (f == k) = false := by simpa using hf
        rw [hf'] at e ⊢; exact look_rp rs e
end
section
variable {X : Cx} {W : WX} {c n : Str} {C : Addr} {i : Nat} {ks : List Str} {body suite : List Stmt} {b₀ : Stmt} {np pos pos' : Pos} {db : SDen} {h : Addr → Addr → SDen}
theorem s_try (hN : X.N.Nodup) (T : ErrC X.K X.mg c C ks) (exm : PySem.W.exmOne X.K (.ref C) (.ref C) = some true) (tk : Takes X W)
    (hb : ∀ (W' : WX) (pn : List (Addr × Obj)) (xe : Value → Shared → Prop), Takes (X.tr pn xe) W' → PassesOwn (model X.prog X.w) X.A X.env xe → SSs (X.tr pn xe) W' body db)
    (hsu : ∀ (a : Addr) (oe : Obj) (dd : Addr) (pn : List (Addr × Obj)), Zc (.ref C) (some dd) oe → (∃ vs, oe.data = .fields vs) → PSs (X.suite a ((a, oe) :: pn)) (b₀ :: suite) (rdS X.K X.mg W0 (h a dd)))
    (hs : X.stack = X.env :: X.outer := by rfl) (hf : X.env.frame = some X.env.locals := by rfl) (hi : X.N[i]? = some n := by rfl) (hln : X.env.kindOf n = some .local := by rfl) (hg : Gl X c := by rfl) (hdb : (c == ("__debug__" : Str)) = false := by decide) :
    SS X W (.Try body [.ExceptHandler (some (.Name c np)) (some n) (b₀ :: suite) pos'] [] [] pos) (sTry c i db h) := by
  have hz := ps_try_as (X := X) (x := c) (n := n) (c := .ref C) (i := i) (body := body) (suite := suite) (b₀ := b₀) (np := np) (pos := pos) (pos' := pos') (tb := fun W' => rdS X.K X.mg W' db)
    (ts := fun a cls d => fun Dn σ H => ∃ dd, cls = .ref C ∧ d = some dd ∧ rdS X.K X.mg W0 (h a dd) Dn σ H) (Wout := W) hs hf hN hi hln ⟨hg, hdb, .inl T.gl⟩ tk (fun W' pn xe t p => hb W' pn xe t p)
    (fun a oe cls d pn z v => ⟨fun pins s σ H Dn I q => by
      obtain ⟨dd, rfl, rfl, q⟩ := q
      exact (hsu a oe dd pn z v).run pins s σ H Dn I q⟩)
  refine PS.imp hz fun Dn σ H q => ?_
  obtain ⟨ι, env, S, s, er, p⟩ := q
  refine ⟨ι, env, S, s, er, ?_⟩
  unfold sTry at p
  cases q : db env S with
  | ex c' fs e S' =>
    rw [q] at p
    simp only at p
    intro ι' H' σ' dd C' us e1 s1 er1 hm hd hn rus
    split at p
    · rename_i ec
      subst ec
      have eC : C' = C := by rw [T.gl] at hm; cases hm; rfl
      subst eC
      refine ⟨true, exm, fun _ a ha => ⟨dd, rfl, rfl, ι', _, S', s1, er1.set (.err (a := a) hn hd rus), ?_⟩, fun z => by cases z⟩
      exact ((p.collapse a dd).endX).ext e1 s1
    · exact p.elim
  | nx _ _ => rw [q] at p; exact p
  | bk _ _ => rw [q] at p; exact p
  | ct _ _ => rw [q] at p; exact p
  | rt _ _ => rw [q] at p; exact p
  | bad => rw [q] at p; exact p
theorem e_xf {a dd : Addr} {oe : Obj} {pn : List (Addr × Obj)} {f : Str} {e : Expr} {d : Den} (T : ErrC X.K X.mg c C ks) (hfk : f ∈ ks) (hz : Zc (.ref C) (some dd) oe) (hv : ∃ vs, oe.data = .fields vs) (he : PE (X.suite a ((a, oe) :: pn)) e (rd X.K X.mg W0 d))
    (hb : attributeBase e f X.env (eval e X.env) = eval e X.env := by rfl) : PE (X.suite a ((a, oe) :: pn)) (.Attribute e f pos) (rd X.K X.mg W0 (dXf a dd f d)) := PE.imp (pe_xf T.xf (T.no f hfk) hz hv he hb) fun σ H Q h => by
  obtain ⟨ι, env, S, s, er, p⟩ := h
  refine ⟨ι, env, S, s, er, (Post.bind (Rel' := Rp X.K) p).mono ?_⟩
  rintro x H1 ⟨ι1, dx, S1, e1, s1, r1, p1⟩
  split at p1
  · rename_i a' dd' ks' ds
    split at p1
    · rename_i ha
      obtain ⟨rfl, rfl⟩ := ha
      cases r1 with
      | err hn hd rs =>
        split at p1
        · rename_i v ev
          obtain ⟨u, eu, ru⟩ := look_rp rs ev
          exact ⟨rfl, rfl, _, _, u, rfl, hd, eu, p1.ret s1 ru⟩
        · exact p1.elim
    · exact p1.elim
  · exact p1.elim
theorem kit_err {x : Addr} {ox : Obj} {od : Option Obj} {K : PySem.W.Frag} {mg : Str → Option Value} (T : ErrC K mg c C ks) : PySem.W.KitX K (.ref x) (.ref C) (fun h => PySem.W.InstAt h x ox C od) := PySem.W.kitx_exc T.cl T.xf.ga T.xf.gg T.xf.exC T.ca T.cn T.ct T.cm
def rIsX (K : PySem.W.Frag) (C a dd : Addr) : List V → Hp → VK → Prop := fun xs H Q => ∃ (v : V) (cv : Value) (b : Bool) (gs : List (Str × V)), xs = [.ref a, v] ∧ (∀ u, RelV v u → u = cv) ∧ PySem.W.kitOne K (.ref C) cv = some b ∧ H dd = some (.xd gs) ∧ Q (.bl b) H
theorem call_isX {a dd : Addr} {oe : Obj} {pn : List (Addr × Obj)} (T : ErrC X.K X.mg c C ks) (hz : Zc (.ref C) (some dd) oe) (hf : ∃ vs, oe.data = .fields vs) : CallR (X.suite a ((a, oe) :: pn)) (.builtin "isinstance") (rIsX X.K C a dd) := by
  rintro pins s σ H _ us Q I r ⟨v, cv, b, gs, rfl, hcv, hk, hd, q⟩
  obtain ⟨u1, u2, rfl, r1, r2⟩ := vals2 r
  cases (show u1 = Value.ref a from r1)
  cases hcv _ r2
  have hat := (I.pin (a, oe) (List.mem_append.mpr (.inl List.mem_cons_self))).1
  obtain ⟨vs, hvs⟩ := hf
  have hx : ObjOk X.prog X.w H s.heap dd (.xd gs) := I.hok dd _ hd
  obtain ⟨mA, hns, hr⟩ := hx
  obtain ⟨od, ho, hl⟩ := lookIn_ns hns
  have J : PySem.W.InstAt s.heap a oe C (some od) := ⟨hat, hz.1, by unfold PySem.W.notCls; rw [hvs] <;> rfl, (by rw [hz.2]; exact ho)⟩
  exact PySem.W.kia_one (kit_err T) I.kIn J hk (fun z => nomatch z) fun tk' => ⟨.bl b, H, I.kept (t' := tk') (fun _ _ z => z), rfl, q⟩
theorem rd_isX {K : PySem.W.Frag} {mg : Str → Option Value} {a dd : Addr} {b : Bool} {d : Den} {v : V} {cv : Value} (hcv : ∀ u, RelV v u → u = cv) (hk : PySem.W.kitOne K (.ref C) cv = some b) {σ : L2.St} {H : Hp} {Q : VK} (q : rd K mg W0 (dXis a dd b d) σ H Q) :
    tCB (rIsX K C a dd) (tCons (rd K mg W0 d) (tCons (tC v) tNil)) σ H Q := by
  obtain ⟨ι, env, S, s, er, p⟩ := q
  refine ⟨ι, env, S, s, er, (Post.bind (Rel' := Rp K) p).mono ?_⟩
  rintro x H1 ⟨ι1, dx, S1, e1, s1, r1, p1⟩
  split at p1
  · split at p1
    · rename_i ha
      obtain ⟨rfl, rfl⟩ := ha
      cases r1 with
      | err hn hd rs => exact ⟨v, cv, b, _, rfl, hcv, hk, hd, p1.ret s1 (.bl _)⟩
    · exact p1.elim
  · exact p1.elim
/-- isinstance(e, C2), C2 an error class of the program's | a built-in one -/
theorem e_isX {a dd C2 : Addr} {oe : Obj} {pn : List (Addr × Obj)} {e : Expr} {d : Den} {x : Str} {p q : Pos} {b : Bool} (T : ErrC X.K X.mg c C ks) (hz : Zc (.ref C) (some dd) oe) (hf : ∃ vs, oe.data = .fields vs) (hm : X.mg "isinstance" = none) (hx : X.mg x = some (.ref C2)) (hk : PySem.W.kitOne X.K (.ref C) (.ref C2) = some b)
    (he : PE (X.suite a ((a, oe) :: pn)) e (rd X.K X.mg W0 d)) (hg : Gl X "isinstance" := by rfl) (hg2 : Gl X x := by rfl) (hd : (x == ("__debug__" : Str)) = false := by decide)
    (hs : starEach [e, .Name x q] X.env = (false, eval e X.env) :: starEach [.Name x q] X.env := by rfl) (hs2 : starEach [.Name x q] X.env = (false, eval (.Name x q) X.env) :: starEach [] X.env := by rfl) (hpl : (backTo pos (starEach [.Name x q] X.env)).any (·.1) = false := by rfl) :
    PE (X.suite a ((a, oe) :: pn)) (.Call (.Name "isinstance" p) [e, .Name x q] [] pos) (rd X.K X.mg W0 (dXis a dd b d)) :=
  PE.imp (pe_callB (X := X.suite a ((a, oe) :: pn)) (call_isX T hz hf) hg hm (by decide +kernel) (pa_cons he (pa_cons (pe_glob (v := .ref C2) hg2 hx rfl hd) pa_nil hs2) hs) (by decide) (by decide) hs hpl) fun σ H Q z => rd_isX (v := .ref C2) (cv := .ref C2) (fun _ z => z) hk z
theorem e_isXB {a dd : Addr} {T' : String} {oe : Obj} {pn : List (Addr × Obj)} {e : Expr} {d : Den} {x : Str} {p q : Pos} {b : Bool} (T : ErrC X.K X.mg c C ks) (hz : Zc (.ref C) (some dd) oe) (hf : ∃ vs, oe.data = .fields vs) (hm : X.mg "isinstance" = none) (hx : X.mg x = none) (hv : bootBuiltins x = some (.type T')) (hk : PySem.W.kitOne X.K (.ref C) (.type T') = some b)
    (he : PE (X.suite a ((a, oe) :: pn)) e (rd X.K X.mg W0 d)) (hg : Gl X "isinstance" := by rfl) (hg2 : Gl X x := by rfl) (hn : x ≠ "__name__" := by decide) (hd : (x == ("__debug__" : Str)) = false := by decide)
    (hs : starEach [e, .Name x q] X.env = (false, eval e X.env) :: starEach [.Name x q] X.env := by rfl) (hs2 : starEach [.Name x q] X.env = (false, eval (.Name x q) X.env) :: starEach [] X.env := by rfl) (hpl : (backTo pos (starEach [.Name x q] X.env)).any (·.1) = false := by rfl) :
    PE (X.suite a ((a, oe) :: pn)) (.Call (.Name "isinstance" p) [e, .Name x q] [] pos) (rd X.K X.mg W0 (dXis a dd b d)) :=
  PE.imp (pe_callB (X := X.suite a ((a, oe) :: pn)) (call_isX T hz hf) hg hm (by decide +kernel) (pa_cons he (pa_cons (pe_bltn (v := .ty T') hg2 hx hv rfl hn hd) pa_nil hs2) hs) (by decide) (by decide) hs hpl) fun σ H Q z => rd_isX (v := .ty T') (cv := .type T') (fun _ z => z) hk z
end
end
end Z
end

section
set_option Elab.async false
set_option linter.all false
set_option maxRecDepth 100000
set_option maxHeartbeats 1000000
namespace Z
noncomputable section
open PySem PySem.Spec PyProof.Rows L2

/-! ### defs that are called by place alone (a star parameter) -/
def spOfR (K : PySem.W.Frag) (mg : Str → Option Value) (f : FD) : Sp := fun vs H Q E => ∃ ι ds S, Sr K H ι S ∧ Rps K H ι vs ds ∧ Post K mg (Rp K) (fun c d _ H => E c d H) [] ι H (f ds S) Q
abbrev FnY (P : Program) (w : World) (K : PySem.W.Frag) (mg : Str → Option Value) (base : Heap) (k : Nat) (f : Addr) (F : FD) : Prop := FnR P w K mg base (L2.CX P w) k f (spOfR K mg F)
def starF (n : Nat) (F : FD) : FD := fun ds S => if n ≤ ds.length ∧ Fit ds.length then F (ds.take n ++ [.tup (ds.drop n)]) S else .bad
section
variable {P : Program} {w : World} {K : PySem.W.Frag} {mg : Str → Option Value} {base : Heap}
theorem fn_okY {x qual : Str} {st : Stmt} {f : Addr} {fd : FuncData} {N ps : List Str} {pv : Str} {k : Nat} {body : SDen} (F : Fun K x qual st f fd) (S : FnScope N (ps ++ [pv]) (defScope st)) (hN : ps.length + 1 ≤ N.length)
    (hbd : ∀ (kV doc pm : Value) (an : Option Addr) (cdv ct : Value) (us rest : List Value), us.length = ps.length → bindArgs (PySem.W.fnOf x qual (defArgs st) (defBody st) (defScope st) .none kV doc pm an cdv ct) ⟨us ++ rest, []⟩ = (newTuple rest >>= fun t => pure (ps.zip us ++ [(pv, t)])))
    (hb : ∀ (cdv : Value) (A : Around) (outer : List PySem.Env) (s : Shared) (H : Hp) (E : XK), Room k (A.deeper (envOfC qual (defScope st) s.heap.objs.size f cdv)) →
      Takes (cxOf (L2.CX P w) P w K mg base N qual (defScope st) f cdv A outer s H E) (wE E) → SSs (cxOf (L2.CX P w) P w K mg base N qual (defScope st) f cdv A outer s H E) (wE E) (defBody st) body) :
    FnY P w K mg base (k + 1) f (starF ps.length (fnF N.length body)) := by
  obtain ⟨oc, od, kV, doc, pm, an, cdv, ct, osl, rfl, lk, hcd⟩ := F.ex
  refine FnR.imp (StX.fn_star (sp := spOf K mg (ps.length + 1) (fnF N.length body)) lk hcd S StX.cxUp (hbd kV doc pm an cdv ct) fun A outer s H vs Q E hr h => ⟨_, hb cdv A outer s H E hr (takes_of rfl rfl rfl rfl), ?_⟩) fun vs H Q E h => ?_
  · obtain ⟨hl, ι, ds, S0, sr, r, p⟩ := h
    refine ⟨ι, _, S0, sr, er_start r (by rw [hl]; exact hN), ?_⟩
    unfold fnF at p
    show PostS K mg (wE E) ι H (body (ds.map some ++ List.replicate (N.length - ds.length) none) S0) _
    cases q : body (ds.map some ++ List.replicate (N.length - ds.length) none) S0 with
    | nx e S' => rw [q] at p; exact fun ι' H' σ' e1 s1 _ => p ι' H' .non e1 s1 .non
    | rt d S' => rw [q] at p; exact p
    | ex c fs e S' => rw [q] at p; exact fun ι' H' σ' dd C gs e1 s1 _ => p ι' H' dd C gs e1 s1
    | bk e S' => rw [q] at p; exact p.elim
    | ct e S' => rw [q] at p; exact p.elim
    | bad => rw [q] at p; exact p.elim
  · obtain ⟨ι, ds, S0, sr, r, p⟩ := h
    unfold starF at p
    split at p
    · rename_i hl
      refine ⟨vs.take ps.length, vs.drop ps.length, (List.take_append_drop _ _).symm, ?_, ?_, fun pa hp => ⟨?_, ι, _, S0, sr.new hp, ((r.take _).ext (Ext.new hp)).append (.cons (.tup (sr.out hp) upd_same ((r.drop ps.length).ext (Ext.new hp))) .nil), ?_⟩⟩
      · rw [List.length_take, r.length]; omega
      · rw [List.length_drop, r.length]; have := hl.2; unfold Fit at this; omega
      · rw [List.length_append, List.length_take, r.length]; simp; omega
      · exact p.ext (Ext.new hp) (sr.new hp)
    · exact p.elim
end
def dCallY (F : FD) (a : DenA) : Den := fun env S => (a env S).bind F
section
variable {X : Cx} {W : WX} {k : Nat} {f : Addr} {F : FD} {x : Str} {p pos : Pos} {e : Expr} {es : List Expr} {da : DenA}
theorem run_Y {pins : List (Addr × Obj)} {σ : L2.St} {H : Hp} {s : Shared} {Q : VK} {us : List Value} {vs : List V} (Fk : FnY X.prog X.w X.K X.mg X.base k f F) (hr : Room k X.A) (tk : Takes X W) (I : Inv X pins σ H s) (r : Vals vs us) (h : spOfR X.K X.mg F vs H Q (WE W σ)) :
    wpAny (model X.prog X.w) X.A (call (.ref f) us) (EP X pins σ Q) X.xe s := by
  refine wpAny_call (codeAny_mono (Fk X.A X.stack s H us vs Q (WE W σ) hr I.env0 r h) fun q s' hq => ?_)
  match q, hq with
  | .error e, hq => exact passAt tk σ pins H s e s' I hq
  | .ok (.ret u), hq => exact I.after hq
/-- f(e, ..) -/
theorem e_callY (Fk : FnY X.prog X.w X.K X.mg X.base k f F) (hr : Room k X.A) (hm : X.mg x = some (.ref f)) (hk : PySem.W.keepIn X.K (.ref f) = true) (tk : Takes X W) (ha : AA X W (e :: es) da) (hg : Gl X x := by rfl) (hd : (x == ("__debug__" : Str)) = false := by decide)
    (he : starEach (e :: es) X.env = (false, eval e X.env) :: starEach es X.env := by rfl) (hpl : (backTo pos (starEach es X.env)).any (·.1) = false := by rfl) : EE X W (.Call (.Name x p) (e :: es) [] pos) (dCallY F da) := by
  refine ⟨fun pins s σ H Q I h => wpAny_Call_Name_kw (ld_glob I hg hm ?_ hd)⟩
  obtain ⟨ι, env, S, s0, er, q⟩ := h
  have ha' := ha.run pos pins s σ H (fun vs H1 => spOfR X.K X.mg F vs H1 Q (WE W σ)) I ⟨ι, env, S, s0, er, (Post.bind (Rel' := Rps X.K) q).mono (by
    rintro xs H1 ⟨ι1, ds, S1, e1, s1, r1, p1⟩
    exact ⟨ι1, ds, S1, s1, r1, Post.wish (E := WE W σ) p1 fun _ _ _ h => h⟩)⟩
  exact PySem.W.callWith_K (h₀ := X.base) I.ok.mod.kin hk (thn ha' fun us s1 ⟨vs, H1, I1, r, q⟩ => ⟨I1.kIn, run_Y Fk hr tk I1 r q⟩) he hpl
/-- f() -/
theorem e_callY0 (Fk : FnY X.prog X.w X.K X.mg X.base k f F) (hr : Room k X.A) (hm : X.mg x = some (.ref f)) (hk : PySem.W.keepIn X.K (.ref f) = true) (tk : Takes X W) (hg : Gl X x := by rfl) (hd : (x == ("__debug__" : Str)) = false := by decide) :
    EE X W (.Call (.Name x p) [] [] pos) (dCallY F aNil) := by
  refine ⟨fun pins s σ H Q I h => wpAny_Call_Name_kw (ld_glob I hg hm ?_ hd)⟩
  obtain ⟨ι, env, S, s0, er, q⟩ := h
  exact PySem.W.callWith_K0 I.kIn hk (run_Y (us := []) Fk hr tk I .nil ⟨ι, [], S, s0, .nil, Post.wish (E := WE W σ) q fun _ _ _ h => h⟩)
end

/-! ### two targets at once -/
def sPar (i j : Nat) (a : DenA) : SDen := fun env S => (a env S).lift env fun ds S1 => match ds with
  | [x, y] => .nx ((env.set i (some x)).set j (some y)) S1
  | _ => .bad
section
variable {X : Cx} {W : WX} {a b : Expr} {da : DenA} {x y : Str} {i j : Nat} {px py pt pt2 pos : Pos} {kt k2 : Nat}
theorem rd_par {K : PySem.W.Frag} {mg : Str → Option Value} {Dn : Ends} {σ : L2.St} {H : Hp} (h : rdS K mg W (sPar i j da) Dn σ H) : tPar i j (rdA K mg W da) Dn σ H := by
  obtain ⟨ι, env, S, s, er, p⟩ := h
  refine ⟨ι, env, S, s, er, (PostS.lift (Rel := Rps K) p er).mono ?_⟩
  rintro vs H1 ⟨ι1, ds, S1, e1, s1, r1, p1⟩
  split at p1
  · obtain ⟨v, w, rfl, r, r2⟩ := rps2 r1
    exact ⟨v, w, rfl, p1.nx s1 (((er.ext e1).set r).set r2)⟩
  · exact p1.elim
end

/-! ### the law's end -/
/-- what is wanted of the law's def: called upon the script it hands back True -/
def spLaw (K : PySem.W.Frag) : Sp := fun vs H Q _ => ∃ (a : Addr) (ns : List Int), vs = [.ref a] ∧ ns.length ≤ 63 ∧ (∀ z ∈ ns, Builtin.Int.intBits z ≤ 1048576) ∧ Only H ∧ SqL K H a (ns.map V.int) ∧ ∀ H', Q (.bl true) H'
def Holds (F : FD) : Prop := ∀ ns : List Int, ns.length ≤ 63 → (∀ z ∈ ns, Builtin.Int.intBits z ≤ 1048576) → ∃ S', F [.frz (ns.map D.int)] [] = .ok (.bl true) S'
theorem law_sp {K : PySem.W.Frag} {mg : Str → Option Value} {F : FD} (hF : Holds F) (vs : List V) (H : Hp) (Q : VK) (E : XK) (h : spLaw K vs H Q E) : spOf K mg 1 F vs H Q E := by
  obtain ⟨a, ns, rfl, hl, hb, hO, hS, q⟩ := h
  obtain ⟨S', e⟩ := hF ns hl hb
  have rs : ∀ ns : List Int, Rps K H ⟨[], []⟩ (ns.map V.int) (ns.map D.int) := fun ns => by
    induction ns with
    | nil => exact .nil
    | cons n ns ih => exact .cons (.int n) ih
  have nh : ¬ (⟨[], []⟩ : Em).has a := fun z => by rcases z with z | z <;> cases z
  refine ⟨rfl, ⟨[], []⟩, [.frz (ns.map D.int)], [], ⟨rfl, List.nodup_nil, (fun b hb => nomatch hb), (fun n a c h => nomatch h)⟩, .cons ?_ .nil, ?_⟩
  · rcases hS with (h | ⟨o, h⟩) | h
    · rcases hO a with z | ⟨o, xs, z⟩
      · rw [z] at h; cases h
      · rw [z] at h; cases h
    · exact .frz nh h (rs ns)
    · exact .frzK h (rs ns)
  · rw [e]
    intro ι' H' v _ _ r
    cases r
    exact q H'
theorem walk_Z {l : PySem.W.OpenLaw} {q : Program} {loose : List Str} {XP : (Str → Option Value) → Heap → Prop} {YP : World → Heap → Prop} {d : DefRec} {K : Params → PySem.W.Frag} {k : Nat} (hn : l.most = some 63) (hdf : d.params.defaults = []) (hr : Room k callerA)
    (hY : ∀ (w : World) (h : Heap), YP w h → (K w.params).In h)
    (F : ∀ (w : World) (mg : Str → Option Value) (fa : Addr) (h : Heap), (K w.params).In h → h.Ns mainGlobals mg → mg d.name = some (.ref fa) →
      ∃ fd : FuncData, (∀ (s : Shared) (v : Value), BindsTo s fd ⟨[v], []⟩ [("script", v)]) ∧ ∀ base : Heap, (K w.params).In base → base.Ns mainGlobals mg → FnOk l.prog w (K w.params) mg base (L2.CX l.prog w) k fa fd ["script"] (spLaw (K w.params))) :
    PySem.W.WalkO q loose XP YP l.row.toRowW d [] (fun f vs => PySem.call f vs) :=
  L2.walk_ofB (n := 63) (k := k) (x := "script") (CX := fun w => L2.CX l.prog w) (sp := fun w => spLaw (K w.params)) hn (by decide) hdf hr hY F (fun w H a ns hl hb hO hS => ⟨a, ns, rfl, hl, hb, hO, hS, fun _ => rfl⟩) fun w H s e s' z => by
    obtain ⟨_, _, _, _, _, _, _, _, _, _, _, _, z⟩ := z
    exact z
end
end Z
end

section
set_option Elab.async false
set_option linter.all false
set_option maxRecDepth 100000
set_option maxHeartbeats 1000000
namespace Z
noncomputable section
open PySem PySem.Spec PyProof.Rows L2
/-- a body that was walked gives its promise -/
theorem fn_fin {K : PySem.W.Frag} {mg : Str → Option Value} {body : SDen} {N : List Str} {n : Nat} {vs : List V} {H : Hp} {Q : VK} {E : XK} (hN : n ≤ N.length) (h : spOf K mg n (fnF N.length body) vs H Q E) : rdS K mg (wE E) body { nx := fun _ H' => Q .non H', rt := Q } (L2.start N vs) H := by
  obtain ⟨hl, ι, ds, S0, sr, r, p⟩ := h
  refine ⟨ι, _, S0, sr, er_start r (by rw [hl]; exact hN), ?_⟩
  unfold fnF at p
  cases q : body (ds.map some ++ List.replicate (N.length - ds.length) none) S0 with
  | nx e S' => rw [q] at p; exact fun ι' H' σ' e1 s1 _ => p ι' H' .non e1 s1 .non
  | rt d S' => rw [q] at p; exact p
  | ex c fs e S' => rw [q] at p; exact fun ι' H' σ' dd C gs e1 s1 _ => p ι' H' dd C gs e1 s1
  | bk e S' => rw [q] at p; exact p.elim
  | ct e S' => rw [q] at p; exact p.elim
  | bad => rw [q] at p; exact p.elim
section
variable {P : Program} {w : World} {K : PySem.W.Frag} {mg : Str → Option Value} {base : Heap}
/-- as fn_ok, for a def with defaults -/
theorem fn_okD {x qual : Str} {st : Stmt} {f : Addr} {fd : FuncData} {N ps : List Str} {k : Nat} {body : SDen} {dvs : List V} {kws : List (Str × V)} (F : FunD K x qual (defArgs st) (defBody st) (defScope st) dvs kws f fd) (S : FnScope N ps (defScope st)) (hN : ps.length ≤ N.length)
    (hb : ∀ (cdv : Value) (A : Around) (outer : List PySem.Env) (s : Shared) (H : Hp) (E : XK), Room k (A.deeper (envOfC qual (defScope st) s.heap.objs.size f cdv)) →
      Takes (cxOf (L2.CX P w) P w K mg base N qual (defScope st) f cdv A outer s H E) (wE E) → SSs (cxOf (L2.CX P w) P w K mg base N qual (defScope st) f cdv A outer s H E) (wE E) (defBody st) body) :
    FnZ P w K mg base (k + 1) f fd ps (fnF N.length body) :=
  F.ok S (fun vs H Q E h => h.1) fun cdv A outer s H vs Q E hr h => ⟨_, hb cdv A outer s H E hr (takes_of rfl rfl rfl rfl), fn_fin hN h⟩
/-- a def that is never called -/
theorem fn_bad {f : Addr} {fd : FuncData} {ps : List Str} {k : Nat} : FnZ P w K mg base k f fd ps (fun _ _ => .bad) :=
  ⟨fun vs H Q E h => h.1, fun A outer s H args us vs Q E _ _ _ _ h => by
    obtain ⟨_, ι, ds, S, _, _, p⟩ := h
    exact p.elim⟩
end
/-- f(e, .., k = v, ..), which raises nothing -/
def noEx {α : Type} (r : R α) : R α := match r with
  | .ok a S => .ok a S
  | _ => .bad
def dCallK (n m : Nat) (F : FD) (a b : DenA) : Den := fun env S => (a env S).bind fun ds S1 => (b env S1).bind fun es S2 => if ds.length = n ∧ es.length = m then noEx (F (ds ++ es) S2) else .bad
section
variable {K : PySem.W.Frag} {x qual : Str} {params : Arguments} {body : List Stmt} {scope : Scope} {dvs : List V} {kws : List (Str × V)} {f : Addr} {fd : FuncData} {ps ks : List Str} {n : Nat}
/-- every parameter is written, the last ones by their names -/
theorem kbn_of (F : FunD K x qual params body scope dvs kws f fd) (hd : dvs ≠ [])
    (h : ∀ (T : Addr) (kV doc pm : Value) (an : Option Addr) (cdv ct : Value) (us ws its : List Value), us.length = n → ws.length = ks.length → its.length = dvs.length →
      ∃ k, bindArgs (PySem.W.fnOf x qual params body scope (.ref T) kV doc pm an cdv ct) ⟨us, ks.zip ws⟩ = seqItems? (.ref T) >>= k ∧ k (some its.toArray) = pure (ps.zip (us ++ ws))) : KBn K fd ps n ks (fun us ws => us ++ ws) (fun vs zs => vs ++ zs) := by
  obtain ⟨oc, od, dV, kV, doc, pm, an, cdv, ct, osl, rfl, lk, hcd, hD, hK⟩ := F.ex
  rcases hD with ⟨e, _⟩ | ⟨_, T, o, its, m, rfl, lT, oT, rT⟩
  · exact absurd e hd
  · refine ⟨fun s us ws X h1 h2 => ?_, fun r1 r2 => r1.append r2⟩
    obtain ⟨k, e1, e2⟩ := h T kV doc pm an cdv ct us ws its h1 h2 rT.length.symm
    exact BindsTo.of_looks fun M => by rw [e1]; exact looks_items X lT oT (.of_pure e2)
end
section
variable {X : Cx} {W : WX} {k n : Nat} {f : Addr} {fd : FuncData} {ps ks : List Str} {F : FD} {x : Str} {p pos : Pos} {e : Expr} {es : List Expr} {kws : List Keyword} {da db : DenA} {kpos : Pos} {nm : Option Str} {d : Den}
abbrev KK (X : Cx) (W : WX) (kws : List Keyword) (d : DenA) : Prop := PK X kws (rdA X.K X.mg W d)
theorem PK.imp {t t' : TA} (h : PK X kws t) (f : ∀ σ H Q, t' σ H Q → t σ H Q) : PK X kws t' := ⟨fun pos pins s σ H Q I q => h.run pos pins s σ H Q I (f σ H Q q)⟩
theorem k_nil : KK X W [] aNil := PK.imp pk_nil fun σ H Q h => by
  obtain ⟨ι, env, S, s, er, p⟩ := h
  exact p.ret s .nil
theorem k_cons (h : EE X W e d) (hr : KK X W kws da) : KK X W (⟨nm, e, kpos⟩ :: kws) (aCons d da) := PK.imp (pk_cons h hr) fun σ H Q h => by
  obtain ⟨ι, env, S, s, er, p⟩ := h
  refine ⟨ι, env, S, s, er, (Post.bind (Rel' := Rp X.K) p).mono ?_⟩
  rintro x H1 ⟨ι1, dx, S1, e1, s1, r1, p1⟩
  refine ⟨ι1, env, S1, s1, er.ext e1, (Post.bind (Rel' := Rps X.K) p1).mono ?_⟩
  rintro xs H2 ⟨ι2, dxs, S2, e2, s2, r2, p2⟩
  exact p2.ret s2 (.cons (r1.ext e2) r2)
theorem e_callK {m : Nat} (Fk : FnZ X.prog X.w X.K X.mg X.base k f fd ps F) (hr : Room k X.A) (hm : X.mg x = some (.ref f)) (hk : PySem.W.keepIn X.K (.ref f) = true) (hb : KBn X.K fd ps n ks (fun us ws => us ++ ws) (fun vs zs => vs ++ zs)) (ha : AA X W (e :: es) da) (hkw : KK X W kws db) (hm' : ks.length = m := by rfl) (hl : n + m = ps.length := by rfl) (hg : Gl X x := by rfl)
    (hall : (backToKw pos (keywordEach kws X.env)).all (·.1.isSome) = true := by rfl) (hks : (backToKw pos (keywordEach kws X.env)).filterMap (·.1) = ks := by rfl) (hdb : (x == ("__debug__" : Str)) = false := by decide) (he : starEach (e :: es) X.env = (false, eval e X.env) :: starEach es X.env := by rfl)
    (hpl : ((backTo pos (starEach (e :: es) X.env)).any (·.1) || (backToKw pos (keywordEach kws X.env)).any (·.1.isNone)) = false := by rfl) :
    EE X W (.Call (.Name x p) (e :: es) kws pos) (dCallK n m F da db) := by
  subst hm'
  exact PE.imp (pe_callN (E := E0) (g := fun us ws => us ++ ws) (gV := fun vs zs => vs ++ zs) Fk hr hg hm hk hb passL ha hkw hall hks hdb he hpl) fun σ H Q h => by
    obtain ⟨ι, env, S, s, er, p⟩ := h
    refine ⟨ι, env, S, s, er, (Post.bind (Rel' := Rps X.K) p).mono ?_⟩
    rintro xs H1 ⟨ι1, ds, S1, e1, s1, r1, p1⟩
    refine ⟨ι1, env, S1, s1, er.ext e1, (Post.bind (Rel' := Rps X.K) p1).mono ?_⟩
    rintro ys H2 ⟨ι2, es', S2, e2, s2, r2, p2⟩
    split at p2
    · rename_i hn
      refine ⟨by rw [r1.length]; exact hn.1, by rw [r2.length]; exact hn.2, by rw [List.length_append, r1.length, r2.length, hn.1, hn.2]; exact hl, ι2, _, S2, s2, (r1.ext e2).append r2, ?_⟩
      cases q : F (ds ++ es') S2 with
      | ok a S' => rw [q] at p2; exact p2
      | ex c fs S' => rw [q] at p2; exact p2.elim
      | bad => rw [q] at p2; exact p2.elim
    · exact p2.elim
end

section
variable {X : Cx} {W : WX} {a b : Expr} {da : DenA} {x y : Str} {i j : Nat} {px py pt pt2 pos : Pos}
theorem s_par {kt k2} (hc : X.calm = true) (hN : X.N.Nodup) (hij : i ≠ j) (ha : AA X W [a, b] da) (hi : X.N[i]? = some x := by rfl) (hj : X.N[j]? = some y := by rfl) (hx : X.env.scope.names.lookup x = some .local := by rfl) (hy : X.env.scope.names.lookup y = some .local := by rfl)
    (hw : swappedStores [.Tuple [.Name x px, .Name y py] kt pt] (.Tuple [a, b] k2 pt2) X.env = pure (some [x, y]) := by rfl) (hs : swapsWithSole [.Tuple [.Name x px, .Name y py] kt pt] (.Tuple [a, b] k2 pt2) pos.line X.env = pure false := by rfl) :
    SS X W (.Assign [.Tuple [.Name x px, .Name y py] kt pt] (.Tuple [a, b] k2 pt2) pos) (sPar i j da) := PS.imp (ps_par hc hN hi hj hij hx hy ha hw hs) fun Dn σ H h => rd_par h
end
end
end Z
end

section
set_option Elab.async false
set_option linter.all false
set_option maxRecDepth 100000
set_option maxHeartbeats 2000000
namespace PySem
open PySem PySem.Spec PySem.Calls PyProof.Rows
section
variable {prog : Program} {w : World} {A : Around} {E : Value → Shared → Prop} {s : Shared} {R : Result → Shared → Prop}
/-- list.__init__ of a list walked backwards -/
theorem zz_init_rev {it l S : Addr} {items : Array Value} (hh : A.handled = none) (hit : s.heap.IsRevIter it l ((items.size : Int) - 1)) (hl : s.heap.IsList l items) (hne : l ≠ it) (hn : items.size ≤ sizeLine)
    (hS : s.heap.get? S = some { cls := .type "list", data := .seq #[] }) (hSi : S ≠ it) (hSl : S ≠ l)
    (hR : ∀ (h' : Heap) (tk : Nat) (acc : Array Value) (c' : Nat), (∀ b o, b ≠ S → b ≠ it → s.heap.get? b = some o → h'.get? b = some o) → h'.get? S = some { cls := .type "list", dict := none, data := .seq acc c', slots := #[] } →
      ItemsOf (fun i v => items[items.size - 1 - i]? = some v) acc items.size → R (.ok (.ret .none)) { s with heap := h', toks := tk }) :
    wpAny (model prog w) A.in1 (Builtin.«list.__init__» ⟨[.ref S, .ref it], []⟩)
      (fun fin s' => match fin with | .done f => R (.ok f) s' | .again c' => c'.quiet = true ∧ codeAny (model prog w) A c' R s') (fun e s' => R (.error e) s') s := by
  have W := (Walks.listRev (prog := prog) (w := w) (A := A.in1) hh it l hne items).toS
  show wpAny _ A.in1 (do let old ← Builtin.List.listItems (.ref S); Builtin.List.listUpdate (.ref S) (fun _ => #[]); letGo old.toList.reverse; Builtin.List.listExtendWith (.ref S) (.ref it) .none) _ _ _
  refine wpAny_bind (?_ : wpAny _ _ (Builtin.List.listItems (.ref S)) _ _ _)
  unfold Builtin.List.listItems
  refine wpAny_bind (wpAny_seqItems hS rfl (wpAny_pure (?_ : wpAny _ A.in1 (updateSeq S (fun _ => #[]) >>= fun _ => letGo (#[] : Array Value).toList.reverse >>= fun _ => Builtin.List.listExtendWith (.ref S) (.ref it) .none) _ _ s)))
  refine wpAny_bind (wpAny_updateSeq hS rfl (wpAny_bind (wpAny_letGo ?_)))
  have g2 := Heap.get?_update_self (Obj.mapSeq (fun _ => (#[] : Array Value))) hS rfl
  have k2 : ∀ b o, b ≠ S → s.heap.get? b = some o → (s.heap.update S (Obj.mapSeq (fun _ => (#[] : Array Value)))).get? b = some o := fun b o hb e => (Heap.get?_update_other _ _ (Ne.symm hb)).trans e
  have hit2 : (s.heap.update S (Obj.mapSeq (fun _ => (#[] : Array Value)))).IsRevIter it l ((items.size : Int) - 1) := hit.at fun o e => k2 it o (Ne.symm hSi) e
  have hl2 : (s.heap.update S (Obj.mapSeq (fun _ => (#[] : Array Value)))).IsList l items := by
    obtain ⟨o, ho, r⟩ := hl
    exact ⟨o, k2 l o (Ne.symm hSl) ho, r⟩
  have nf : S ∉ [it, l] := by simp [hSi, hSl]
  have hT : ({ s with heap := s.heap.update S (Obj.mapSeq (fun _ => (#[] : Array Value))) } : Shared).TypeIs (.ref it) "list_reverseiterator" := Heap.IsRevIter.typeIs (s := { s with heap := s.heap.update S (Obj.mapSeq (fun _ => (#[] : Array Value))) }) hit2
  have n1 : Builtin.List.listSameRef (.ref S) (.ref it) = false := by simp [Builtin.List.listSameRef, hSi]
  unfold Builtin.List.listExtendWith
  refine wpAny_bind (wpAny_typeOf hT ?_)
  rw [if_neg (fun z => by rw [n1] at z; simp at z)]
  refine wpAny_bind (wpAny_pyIter_revIter (s := { s with heap := s.heap.update S (Obj.mapSeq (fun _ => (#[] : Array Value))) }) hit2 (wpAny_bind (wpAny_holding (?_ : wpAny _ _ (Builtin.List.listLengthHint (.ref it)) _ _ _))))
  unfold Builtin.List.listLengthHint
  refine wpAny_bind (wpAny_specialOf hT RT.nolen_lri (wpAny_bind (?_ : wpAny _ A.in1 (specialOf (Value.ref it) (Str.ofString "__length_hint__")) _ _ _)))
  refine wpAny_specialOf hT RT.hint_lri ?_
  generalize hid : ("list_reverseiterator.__length_hint__" : String) = id1
  wp_delta
  rw [show splitId id1 = some ("list_reverseiterator", "__length_hint__") from (by subst hid; decide +kernel)]
  subst hid
  refine wpAny_bind (wpAny_isInstance (b := true) hT (by rw [isSubtype_type]; kernel_rfl) (wpAny_pure ?_))
  rw [if_neg (by decide)]
  have z0 : ((items.size : Nat) : Int) - 1 - ((0 : Nat) : Int) = (items.size : Int) - 1 := by omega
  refine wpAny_pure ⟨plainId_quiet F.plain_extend_loop _, codeAny_extend_loopS W hn _ nf _ items.size 0 _ _ _ rfl (Nat.zero_le _) ⟨Nat.zero_le _, (by rw [z0]; exact hit2), hl2⟩ g2 (ItemsOf.nil _) fun s' acc' c' hm hS' hacc => ?_⟩
  rw [Moved.eq_with hm]
  exact hR s'.heap s'.toks acc' c' (fun b o hb hi e => hm.heap b o (fun z => by
    rcases List.mem_cons.mp z with z | z
    · exact hb z
    · exact hi (List.mem_singleton.mp z)) (k2 b o hb e)) hS' hacc
theorem zz_call_rev {it l : Addr} {items : Array Value} {Q : Value → Shared → Prop} (hh : A.handled = none) (hit : s.heap.IsRevIter it l ((items.size : Int) - 1)) (hl : s.heap.IsList l items) (hne : l ≠ it) (hn : items.size ≤ sizeLine)
    (hQ : ∀ (h' : Heap) (tk : Nat) (acc : Array Value) (c' : Nat), (∀ b o, b ≠ it → s.heap.get? b = some o → h'.get? b = some o) → h'.get? s.heap.objs.size = some { cls := .type "list", dict := none, data := .seq acc c', slots := #[] } →
      ItemsOf (fun i v => items[items.size - 1 - i]? = some v) acc items.size → Q (.ref s.heap.objs.size) { s with heap := h', toks := tk }) : wpAny (model prog w) A (call (.type "list") [.ref it]) Q E s := by
  obtain ⟨oi, hoi, _⟩ := id hit
  obtain ⟨ol, hol, _⟩ := id hl
  refine callType_codes (Q₁ := fun obj s₁ => obj = .ref s.heap.objs.size ∧ s₁ = { s with heap := s.heap.push { cls := .type "list", data := .seq #[] } })
    F.called_list (F.typeCall_list_1 _) F.entry_list_init (code_list_new _ ⟨rfl, rfl⟩) ?_
  rintro _ _ ⟨rfl, rfl⟩
  have hS : (s.heap.push { cls := .type "list", data := .seq #[] }).get? s.heap.objs.size = some { cls := .type "list", data := .seq #[] } := Heap.get?_push_size _ (by rfl)
  refine ⟨⟨_, hS, rfl⟩, F.args_list_init_2 _ _, zz_init_rev (A := A.in1) (s := { s with heap := s.heap.push { cls := .type "list", data := .seq #[] } }) hh (hit.at fun o e => Heap.get?_push_of_some _ e) (hl.push _) hne hn hS (Nat.ne_of_gt (Heap.lt_size hoi)) (Nat.ne_of_gt (Heap.lt_size hol)) fun h' tk acc c' k g i => ?_⟩
  exact ⟨rfl, hQ h' tk acc c' (fun b o hb e => k b o (Nat.ne_of_lt (Heap.lt_size e)) hb (Heap.get?_push_of_some _ e)) g i⟩
end
end PySem
namespace Z
open PySem PySem.Spec PyProof.Rows L2
def rRevL (K : PySem.W.Frag) (te : TE) : TE := fun σ H Q => te σ H fun v H1 => ∃ (a : Addr) (xs : List V), v = .ref a ∧ SqL K H1 a xs ∧ ∀ p, H1 p = none → Q (.ref p) (upd H1 p (.lst xs.reverse))
theorem pe_listRev {X : Cx} {e : Expr} {te : TE} {p p2 pos pos2 : Pos} (hc : X.calm = true) (hm : X.mg "list" = none) (hm2 : X.mg "reversed" = none) (he : PE X e te) (hg : Gl X "list") (hg2 : Gl X "reversed") (hs : starEach [e] X.env = (false, eval e X.env) :: starEach [] X.env)
    (hs2 : starEach [.Call (.Name "reversed" p2) [e] [] pos2] X.env = (false, eval (.Call (.Name "reversed" p2) [e] [] pos2) X.env) :: starEach [] X.env) : PE X (.Call (.Name "list" p) [.Call (.Name "reversed" p2) [e] [] pos2] [] pos) (rRevL X.K te) := by
  refine ⟨fun pins s σ H Q I h => Call_ (ld_blt I hg hm (show bootBuiltins "list" = some (.type "list") from by decide +kernel) (PyProof.Rows.callWith_type1 (args_cons (Call_ (ld_blt I hg2 hm2 PyProof.Rows.boot_reversed (PyProof.Rows.callWith_type1 (args_cons (thn (he.run pins s σ H _ I h) ?_) hs) hs rfl))) hs2) hs2 rfl))⟩
  rintro u s1 ⟨v, H1, I1, r1, a, xs, rfl, hq, q⟩
  cases (show u = Value.ref a from r1)
  obtain ⟨its, rv, pl, hz⟩ := I1.list hq
  refine args_nil (call_reversed_list pl.isList (args_nil ?_))
  obtain ⟨f0, f1, f2, f3, f4, f5⟩ := I1.fpOk (H' := H1) (b := s1.heap.objs.size) (Nat.le_refl _) (I1.hok.fresh (Nat.le_refl _))
  have I2 : Inv X pins σ H1 { s1 with heap := s1.heap.push (revObj a ((its.toArray.size : Int) - 1)) } := I1.kept (t' := s1.toks) fun b o e => Heap.get?_push_of_some _ e
  obtain ⟨ol, hol, _⟩ := id pl.isList
  refine zz_call_rev (s := { s1 with heap := s1.heap.push (revObj a ((its.toArray.size : Int) - 1)) }) (I1.ok.hd hc) ⟨_, Heap.get?_push_size _ rfl, rfl, rfl⟩ (pl.isList.push _) (Nat.ne_of_lt (Heap.lt_size hol)) (by rw [List.size_toArray, ← rv.length]; exact hz) fun h' tk acc c' hk g hi => ?_
  have hS : (s1.heap.push (revObj a ((its.toArray.size : Int) - 1))).objs.size = s1.heap.objs.size + 1 := by simp [Heap.push]
  have k1 : ∀ b u, s1.heap.get? b = some u → h'.get? b = some u := fun b u e => hk b u (Nat.ne_of_lt (Heap.lt_size e)) (Heap.get?_push_of_some _ e)
  have new : ObjOk X.prog X.w (upd H1 (s1.heap.push (revObj a ((its.toArray.size : Int) - 1))).objs.size (.lst xs.reverse)) h' (s1.heap.push (revObj a ((its.toArray.size : Int) - 1))).objs.size (.lst xs.reverse) :=
    ⟨by rw [List.length_reverse]; exact hz, acc.toList, c', RT.vals_rev rv hi, by rw [Array.toArray_toList]; exact g⟩
  exact ⟨.ref _, _, I1.laid (t' := tk) k1 (by rw [hS]; exact Nat.le_succ _) new, rfl, q _ (I1.hok.fresh (by rw [hS]; exact Nat.le_succ _))⟩
theorem e_revL0 {X : Cx} {W : WX} {e : Expr} {d : Den} {p p2 pos pos2 : Pos} (c : Bool) (hc : X.calm = true) (hm : X.mg "list" = none) (hm2 : X.mg "reversed" = none) (he : EE X W e d) (hg : Gl X "list") (hg2 : Gl X "reversed") (hs : starEach [e] X.env = (false, eval e X.env) :: starEach [] X.env)
    (hs2 : starEach [.Call (.Name "reversed" p2) [e] [] pos2] X.env = (false, eval (.Call (.Name "reversed" p2) [e] [] pos2) X.env) :: starEach [] X.env) {g : Den} (hd : g = fun env S => (d env S).bind fun x S1 => match lstOf S1 x with
      | some xs => mkL c xs.reverse S1
      | none => .bad) : EE X W (.Call (.Name "list" p) [.Call (.Name "reversed" p2) [e] [] pos2] [] pos) g := PE.imp (pe_listRev hc hm hm2 he hg hg2 hs hs2) fun σ H Q h => by
  subst hd
  obtain ⟨ι, env, S, s, er, p⟩ := h
  refine ⟨ι, env, S, s, er, (Post.bind (Rel' := Rp X.K) p).mono ?_⟩
  rintro x H1 ⟨ι1, dx, S1, e1, s1, r1, p1⟩
  split at p1
  · rename_i xs e4
    obtain ⟨a, vs, rfl, hs, r⟩ := lst_inv s1 r1 e4
    exact ⟨a, vs, rfl, hs, (p1.mkL s1 r.reverse).2⟩
  · exact p1.elim
end Z
end

section
set_option Elab.async false
set_option linter.all false
set_option maxRecDepth 100000
set_option maxHeartbeats 1000000
namespace Z
noncomputable section
open PySem PySem.Spec PyProof.Rows L2
theorem no1 {p : Str → Prop} {a : Str} (h : p a) : ∀ f ∈ [a], p f := fun f hf => by rw [List.mem_singleton.mp hf]; exact h
theorem no2 {p : Str → Prop} {a b : Str} (h : p a) (k : p b) : ∀ f ∈ [a, b], p f := fun f hf => by
  rcases List.mem_cons.mp hf with rfl | hf
  · exact h
  · rw [List.mem_singleton.mp hf]; exact k
theorem cl_of {K : PySem.W.Frag} {C : Addr} (h : PySem.W.hasDictIn K C = true) : (PySem.W.clsIn K C).isSome = true := by
  obtain ⟨cd, hc, _⟩ := PySem.W.any_some h
  rw [hc]; rfl
theorem kit_ref {K : PySem.W.Frag} {C E : Addr} {b : Bool} (hd : PySem.W.hasDictIn K E = true) (ty : PySem.W.typeIn K (.ref E) = some (.type "type")) (h : PySem.W.subIn K (.ref C) (.ref E) = some b) (hs : PySem.W.subIn K (.ref C) (.ref C) = some true) : PySem.W.kitOne K (.ref C) (.ref E) = some b := by
  unfold PySem.W.kitOne
  by_cases e : C = E
  · subst e
    rw [hs] at h; cases h
    simp
  · have e1 : (Value.ref C == Value.ref E) = false := by
      rw [beq_eq_false_iff_ne]; intro z; cases z; exact e rfl
    rw [e1, if_neg Bool.false_ne_true]
    unfold PySem.W.kitCls
    simp only [cl_of hd, ty]
    simpa using h
theorem kit_typ {K : PySem.W.Frag} {C : Addr} {b : Bool} {T : String} (hm : PySem.W.kitMeta T = true) (h : PySem.W.subIn K (.ref C) (.type T) = some b) : PySem.W.kitOne K (.ref C) (.type T) = some b := by
  unfold PySem.W.kitOne
  have e1 : (Value.ref C == Value.type T) = false := by
    rw [beq_eq_false_iff_ne]; intro z; cases z
  rw [e1, if_neg Bool.false_ne_true]
  unfold PySem.W.kitCls
  simp only [hm, if_true]
  exact h
/-! ### comparisons as tests -/
theorem rdT_B {K : PySem.W.Frag} {mg : Str → Option Value} {W : WX} {d : Den} {σ : L2.St} {H : Hp} {Q : Bool → Hp → Prop} (h : rdT K mg W (tB' d) σ H Q) : rd K mg W d σ H (fun x H' => ∃ k, x = .bl k ∧ Q k H') := by
  obtain ⟨ι, env, S, s, er, p⟩ := h
  refine ⟨ι, env, S, s, er, (Post.bind (Rel' := Rp K) p).mono ?_⟩
  rintro x H1 ⟨ι1, dx, S1, e1, s1, r1, p1⟩
  cases dx with
  | bl c => cases r1; exact ⟨c, rfl, p1.ret s1 rfl⟩
  | _ => exact p1.elim
section
variable {X : Cx} {W : WX} {a b c : Expr} {da db dc : Den} {pos pos' : Pos} {r r' : R2} {f g : D → D → Sto → R D} {j : Nat}
theorem rd_isN {K : PySem.W.Frag} {mg : Str → Option Value} {σ : L2.St} {H : Hp} {Q : VK} (h : rd K mg W (dIsN da) σ H Q) : tIsN (rd K mg W da) σ H Q := by
  obtain ⟨ι, env, S, s, er, p⟩ := h
  refine ⟨ι, env, S, s, er, (Post.bind (Rel' := Rp K) p).mono ?_⟩
  rintro x H1 ⟨ι1, dx, S1, e1, s1, r1, p1⟩
  rw [r1.isNon]; exact p1.ret s1 (.bl _)
theorem rd_notN {K : PySem.W.Frag} {mg : Str → Option Value} {σ : L2.St} {H : Hp} {Q : VK} (h : rd K mg W (dNotN da) σ H Q) : tNotN (rd K mg W da) σ H Q := by
  obtain ⟨ι, env, S, s, er, p⟩ := h
  refine ⟨ι, env, S, s, er, (Post.bind (Rel' := Rp K) p).mono ?_⟩
  rintro x H1 ⟨ι1, dx, S1, e1, s1, r1, p1⟩
  rw [r1.isNon]; exact p1.ret s1 (.bl _)
theorem sIsB {K : PySem.W.Frag} (k : Bool) {mg : Str → Option Value} {σ : L2.St} {H : Hp} {Q : VK} (h : rd K mg W (dIsB k da) σ H Q) : tOp (rIsBl k) (rd K mg W da) (tC (.bl k)) σ H Q := by
  obtain ⟨ι, env, S, s, er, p⟩ := h
  refine ⟨ι, env, S, s, er, (Post.bind (Rel' := Rp K) p).mono ?_⟩
  rintro x H1 ⟨ι1, dx, S1, e1, s1, r1, p1⟩
  refine ⟨rfl, ?_⟩
  rw [r1.isBl]; exact p1.ret s1 (.bl _)
theorem sNotB {K : PySem.W.Frag} (k : Bool) {mg : Str → Option Value} {σ : L2.St} {H : Hp} {Q : VK} (h : rd K mg W (dNotB k da) σ H Q) : tOp (rNotBl k) (rd K mg W da) (tC (.bl k)) σ H Q := by
  obtain ⟨ι, env, S, s, er, p⟩ := h
  refine ⟨ι, env, S, s, er, (Post.bind (Rel' := Rp K) p).mono ?_⟩
  rintro x H1 ⟨ι1, dx, S1, e1, s1, r1, p1⟩
  refine ⟨rfl, ?_⟩
  rw [r1.isBl]; exact p1.ret s1 (.bl _)
theorem t_cmp {op : CmpOp} (ho : OpR X (compareOp op) r) (hf : OpS X.K r f) (ha : EE X W a da) (hb : EE X W b db) (hm : behindInMarks op b = false := by first | exact nomark _ | rfl) : TT' X W (.Compare a [op] [b] pos) (tB' (bin f da db)) :=
  PT.imp (pt_cmpR ho ha hb hm) fun _ _ _ h => rd_bin hf (rdT_B h)
theorem t_isN (ha : EE X W a da) : TT' X W (.Compare a [.Is] [.Constant .none j pos'] pos) (tB' (dIsN da)) := PT.imp (pt_cmp (pc_isN ha)) fun _ _ _ h => rd_isN (rdT_B h)
theorem t_notN (ha : EE X W a da) : TT' X W (.Compare a [.IsNot] [.Constant .none j pos'] pos) (tB' (dNotN da)) := PT.imp (pt_cmp (pc_notN ha)) fun _ _ _ h => rd_notN (rdT_B h)
theorem t_isB {k : Bool} (ha : EE X W a da) : TT' X W (.Compare a [.Is] [.Constant (.bool k) j pos'] pos) (tB' (dIsB k da)) := PT.imp (pt_cmpR (op_isB k) ha pe_bl (nomark _)) fun _ _ _ h => sIsB k (rdT_B h)
theorem t_notB {k : Bool} (ha : EE X W a da) : TT' X W (.Compare a [.IsNot] [.Constant (.bool k) j pos'] pos) (tB' (dNotB k da)) := PT.imp (pt_cmpR (op_notB k) ha pe_bl (nomark _)) fun _ _ _ h => sNotB k (rdT_B h)
theorem t_chain {op op' : CmpOp} (ho : OpR X (compareOp op) r) (ho' : OpR X (compareOp op') r') (hf : OpS X.K r f) (hg : OpS X.K r' g) (ha : EE X W a da) (hb : EE X W b db) (hc : EE X W c dc)
    (hm : lastMarks [op, op'] [b, c] = false := by with_unfolding_all rfl) : TT' X W (.Compare a [op, op'] [b, c] pos) (tB' (chain f g da db dc)) := PT.imp (pt_chain ho ho' ha hb hc hm) fun _ _ _ h => rd_chain hf hg (rdT_B h)
end
def dRevL (c : Bool) (d : Den) : Den := fun env S => (d env S).bind fun x S1 => match lstOf S1 x with
  | some xs => mkL c xs.reverse S1
  | none => .bad
section
variable {X : Cx} {W : WX} {e : Expr} {d : Den} {p p2 pos pos2 : Pos}
theorem e_revL (c : Bool) (hm : X.mg "list" = none) (hm2 : X.mg "reversed" = none) (he : EE X W e d) (hc : X.calm = true := by rfl) (hg : Gl X "list" := by rfl) (hg2 : Gl X "reversed" := by rfl) (hs : starEach [e] X.env = (false, eval e X.env) :: starEach [] X.env := by rfl)
    (hs2 : starEach [.Call (.Name "reversed" p2) [e] [] pos2] X.env = (false, eval (.Call (.Name "reversed" p2) [e] [] pos2) X.env) :: starEach [] X.env := by rfl) : EE X W (.Call (.Name "list" p) [.Call (.Name "reversed" p2) [e] [] pos2] [] pos) (dRevL c d) := e_revL0 c hc hm hm2 he hg hg2 hs hs2 rfl
end
end
end Z
end

section
set_option Elab.async false
set_option linter.all false
set_option maxRecDepth 100000
namespace Z
/-! ### what is reckoned -/
section
variable {α β : Type} {a : α} {S : Sto} {c : PySem.Str} {fs : List (PySem.Str × D)} {e : Env} {p : Prop} [Decidable p] {d : D}
theorem F.then_nx {k : SDen} : (F.nx e S).then k = k e S := rfl
theorem F.then_rt {k : SDen} : (F.rt d S).then k = .rt d S := rfl
theorem F.then_bk {k : SDen} : (F.bk e S).then k = .bk e S := rfl
theorem F.then_ct {k : SDen} : (F.ct e S).then k = .ct e S := rfl
theorem F.then_ex {k : SDen} : (F.ex c fs e S).then k = .ex c fs e S := rfl
theorem F.then_bad {k : SDen} : F.bad.then k = .bad := rfl
theorem F.then_ite {f g : F} {k : SDen} : (if p then f else g).then k = if p then f.then k else g.then k := by split <;> rfl
theorem R.lift_ok {k : α → Sto → F} : (R.ok a S).lift e k = k a S := rfl
theorem R.lift_ex {k : α → Sto → F} : (R.ex c fs S : R α).lift e k = .ex c fs e S := rfl
theorem R.lift_bad {k : α → Sto → F} : (R.bad : R α).lift e k = .bad := rfl
theorem R.lift_ite {f g : R α} {k : α → Sto → F} : (if p then f else g).lift e k = if p then f.lift e k else g.lift e k := by split <;> rfl
theorem R.bind_ite {f g : R α} {k : α → Sto → R β} : (if p then f else g).bind k = if p then f.bind k else g.bind k := by split <;> rfl
def F.fin : F → R D
  | .nx _ S' => .ok .non S'
  | .rt d S' => .ok d S'
  | .ex c fs _ S' => .ex c fs S'
  | _ => .bad
theorem fnF_eq {n : Nat} {body : SDen} {ds : List D} : fnF n body ds S = (body (ds.map some ++ List.replicate (n - ds.length) none) S).fin := by
  unfold fnF F.fin
  cases body (ds.map some ++ List.replicate (n - ds.length) none) S <;> rfl
theorem F.fin_nx : (F.nx e S).fin = .ok .non S := rfl
theorem F.fin_rt : (F.rt d S).fin = .ok d S := rfl
theorem F.fin_ex : (F.ex c fs e S).fin = .ex c fs S := rfl
theorem F.fin_bad : F.bad.fin = .bad := rfl
theorem F.fin_ite {f g : F} : (if p then f else g).fin = if p then f.fin else g.fin := by split <;> rfl
theorem asB_bl {b : Bool} : asB (.bl b) S = .ok b S := rfl
theorem asI_int {i : Int} : asI (.int i) S = .ok i S := rfl
theorem arity_eq {n : Nat} {F : FD} {ds : List D} (h : ds.length = n) : arity n F ds S = F ds S := if_pos h
theorem forGo_nil {g : Sto → Prop} {t : Tg} {b : SDen} (h : g S) : forGo g t b [] e S = .nx e S := by rw [forGo]; exact if_pos h
/-- a loop by its invariant over what is left, where no turn leaves it -/
theorem forGo_inv {g : Sto → Prop} {t : Tg} {b : SDen} {xs : List D} (I : List D → Env → Sto → Prop) (h0 : ∀ S e, I xs e S → True)
    (hg : ∀ ys e S, I ys e S → g S) (hs : ∀ y ys e S, I (y :: ys) e S → ∃ e1 e2 S2, t.run y e = some e1 ∧ (b e1 S = .nx e2 S2 ∨ b e1 S = .ct e2 S2) ∧ I ys e2 S2) : ∀ {ys : List D} {e : Env} {S : Sto}, I ys e S → ∃ e' S', forGo g t b ys e S = .nx e' S' ∧ I [] e' S'
  | [], e, S, h => ⟨e, S, forGo_nil (hg _ _ _ h), h⟩
  | y :: ys, e, S, h => by
    obtain ⟨e1, e2, S2, h1, h2, h3⟩ := hs y ys e S h
    obtain ⟨e', S', h4, h5⟩ := forGo_inv (xs := xs) I h0 hg hs h3
    refine ⟨e', S', ?_, h5⟩
    rw [forGo, if_pos (hg _ _ _ h), h1]
    rcases h2 with h2 | h2
    · simp only [h2]; exact h4
    · simp only [h2]; exact h4
end
theorem sz_lt {n : Nat} (h : n ≤ 1000) : FitS n = True := eq_true (L2.small1000 h)
theorem sz_le {n : Nat} (h : n ≤ 1000) : Fit n = True := eq_true (Nat.le_of_lt (L2.small1000 h))
/-- a comprehension whose turns leave the store as it is -/
theorem lcGo_map {t : Tg} {c : DenT} {elt : Den} {env : Env} {S : Sto} {g : Sto → Prop} (hg : g S) (f : D → D) : ∀ (xs acc : List D), acc.length + xs.length ≤ 1000 →
    (∀ x ∈ xs, ∃ e, t.run x env = some e ∧ c e S = .ok true S ∧ elt e S = .ok (f x) S) → lcGo g t c elt env xs acc S = .ok (acc ++ xs.map f) S
  | [], acc, _, _ => by rw [lcGo, if_pos hg, List.map_nil, List.append_nil]
  | x :: xs, acc, hl, h => by
    obtain ⟨e, h1, h2, h3⟩ := h x List.mem_cons_self
    rw [lcGo, if_pos hg, h1]
    simp only [h2, h3, if_true]
    rw [if_pos (of_eq_true (sz_lt (by simp only [List.length_cons] at hl; omega))), lcGo_map hg f xs (acc ++ [f x]) (by simp only [List.length_append, List.length_cons, List.length_nil] at hl ⊢; omega) fun y hy => h y (List.mem_cons_of_mem _ hy)]
    simp
theorem bools_rep (n : Nat) : boolsOf (List.replicate n (.bl true)) = some (List.replicate n true) := by
  induction n with
  | zero => rfl
  | succ n ih => rw [List.replicate_succ, boolsOf, ih]; rfl
theorem rngD_len (lo : Int) (n : Nat) : (rngD lo n).length = n := by simp [rngD]
theorem mem_rngD {lo : Int} {n : Nat} {x : D} (h : x ∈ rngD lo n) : ∃ i : Nat, i < n ∧ x = .int (lo + i) := by
  unfold rngD at h
  obtain ⟨i, hi, e⟩ := List.mem_map.mp h
  exact ⟨i, List.mem_range.mp hi, e.symm⟩
/-- data of None, truths, ints, texts and tuples, below a depth -/
def flatD' : Nat → D → Bool
  | _, .non => true
  | _, .bl _ => true
  | _, .int _ => true
  | _, .str _ => true
  | 0, .tup _ => false
  | n + 1, .tup xs => decide (xs.length ≤ 1000) && xs.all (flatD' n)
  | _, _ => false
theorem rok {n : Nat} (hn : n ≤ 1000) : Rok (n : Int) := by unfold Rok big; omega
theorem fRng1_eq {i : Int} {n : Nat} {S : Sto} (h : i = (n : Int)) (hn : n ≤ 1000) : fRng1 [.int i] S = .ok (rngD 0 n, fun _ => True) S := by
  subst h
  show (if Rok (n : Int) then R.ok (rngD 0 (n : Int).toNat, fun _ => True) S else .bad) = _
  rw [if_pos (rok hn), Int.toNat_natCast]
/-! ### sizes -/
/-- below 2 ^ k -/
def sm (k : Nat) (i : Int) : Prop := i.natAbs < 2 ^ k
section
variable {i j : Int} {a b : Nat}
theorem sm.mono (h : sm a i) (hb : a ≤ b) : sm b i := Nat.lt_of_lt_of_le h (Nat.pow_le_pow_right (by decide) hb)
theorem sm.mul (h : sm a i) (k : sm b j) : sm (a + b) (i * j) := by
  unfold sm at *
  rw [Int.natAbs_mul, Nat.pow_add]
  exact Nat.mul_lt_mul'' h k
theorem sm.add (h : sm a i) (k : sm a j) : sm (a + 1) (i + j) := by
  unfold sm at *
  rw [Nat.pow_succ]
  have := Int.natAbs_add_le i j
  omega
theorem sm.sub (h : sm a i) (k : sm a j) : sm (a + 1) (i - j) := by
  unfold sm at *
  rw [Nat.pow_succ]
  have := Int.natAbs_sub_le i j
  omega
theorem sm.ok (h : sm a i) (k : sm b j) (hs : a + b < 1000000) : MulOk i j := by
  have h' : sm (a + 1) i := h.mono (Nat.le_succ _)
  by_cases hb : b = 0
  · subst hb
    refine .inl (.inr ?_)
    unfold sm at k
    have : j = 0 := by
      have : j.natAbs < 1 := k
      omega
    subst this
    decide
  by_cases ha : a = 0
  · subst ha
    refine .inl (.inl ?_)
    unfold sm at h
    have : i = 0 := by
      have : i.natAbs < 1 := h
      omega
    subst this
    decide
  exact .inr (L2.wide_mul h k (by omega) (by omega) (by omega))
theorem sm.div (h : sm a i) (h0 : 0 < i) (ha : a ≤ 9000) : DivOk i := by
  by_cases hz : a = 0
  · subst hz
    unfold sm at h
    have : i.natAbs < 1 := h
    omega
  exact ⟨h0, Nat.lt_of_lt_of_le (PySem.Flt.log2_lt_of (by omega) h) ha⟩
theorem sm.le {k : Nat} (h : sm k j) (h0 : 0 ≤ i) (hi : i ≤ j) : sm k i := by
  unfold sm at *; omega
end
end Z
end

section
set_option Elab.async false
set_option linter.all false
set_option maxRecDepth 100000
set_option maxHeartbeats 1000000
namespace Z
noncomputable section
open PySem PySem.Spec PyProof.Rows L2
/-! ### + of ints, texts, tuples and lists -/
def fPlus (x y : D) (S : Sto) : R D := match x, y with
  | .int i, .int j => .ok (.int (i + j)) S
  | .str i, .str j => if Fit (i.length + j.length) then .ok (.str (i ++ j)) S else .bad
  | .tup xs, .tup ys => if Fit (xs.length + ys.length) then .ok (.tup (xs ++ ys)) S else .bad
  | x, y => match ownOf S x, ownOf S y with
    | some xs, some ys => mkL false (xs ++ ys) S
    | _, _ => .bad
def rPlus (K : PySem.W.Frag) : R2 := fun x y H Q => (rI0 fun i j => .int (i + j)) x y H Q ∨ (∃ i j, x = .str i ∧ y = .str j ∧ i.length + j.length ≤ sizeLine ∧ Q (.str (i ++ j)) H) ∨ rCatA K x y H Q ∨ rCat x y H Q
theorem oPlus {X : Cx} : OpR X (binaryOp .Add) (rPlus X.K) := op_add.or (op_add_str.or (op_catA.or op_cat))
section
variable {K : PySem.W.Frag}
theorem Rps.app {H : Hp} {ι : Em} : ∀ {vs ws : List V} {ds es : List D}, Rps K H ι vs ds → Rps K H ι ws es → Rps K H ι (vs ++ ws) (ds ++ es)
  | _, _, _, _, .nil, h => h
  | _, _, _, _, .cons r rs, h => .cons r (Rps.app rs h)
theorem sPlus : OpS K (rPlus K) fPlus := by
  intro mg W σ ι H S x y dx dy Q s rx ry p
  unfold fPlus at p
  split at p
  · obtain ⟨rfl, rfl⟩ := int2 rx ry
    exact .inl ⟨_, _, rfl, rfl, p.ret s (.int _)⟩
  · rename_i i j
    split at p
    · rename_i hl
      cases rx; cases ry
      exact .inr (.inl ⟨_, _, rfl, rfl, hl, p.ret s (.str _)⟩)
    · exact p.elim
  · rename_i xs ys
    split at p
    · rename_i hl
      obtain ⟨a, vs, rfl, h1, h2⟩ := rx.tup_inv
      obtain ⟨b, ws, rfl, k1, k2⟩ := ry.tup_inv
      refine .inr (.inr (.inl ⟨a, b, vs, ws, rfl, rfl, h1, k1, by rw [h2.length, k2.length]; exact hl, fun e => ?_, fun _ e => ?_, fun _ _ q hq => ?_⟩))
      · subst e
        cases h2
        exact p.ret s (by rw [List.nil_append]; exact ry)
      · subst e
        cases k2
        exact p.ret s (by rw [List.append_nil]; exact rx)
      · exact p _ _ _ (Ext.new hq) (s.new hq) (.tup (s.out hq) upd_same ((h2.app k2).ext (Ext.new hq)))
    · exact p.elim
  · split at p
    · rename_i xs ys e1 e2
      obtain ⟨a, vs, rfl, h1, h2⟩ := own_inv s rx e1
      obtain ⟨b, ws, rfl, k1, k2⟩ := own_inv s ry e2
      have q := p.mkL s (h2.app k2)
      exact .inr (.inr (.inr ⟨a, b, vs, ws, rfl, rfl, h1, k1, by rw [← List.length_append]; exact q.1, q.2⟩))
    · exact p.elim
/-! ### methods of texts -/
def fPart (x : D) (ys : List D) (S : Sto) : R D := match x, ys with
  | .str a, [.str b] => if (b.length == 0) = false ∧ Fit a.length then .ok (.tup [.str (Txt.partition a b).1, .str (Txt.partition a b).2.1, .str (Txt.partition a b).2.2]) S else .bad
  | _, _ => .bad
def fStarts (x : D) (ys : List D) (S : Sto) : R D := match x, ys with
  | .str a, [.str b] => .ok (.bl (Txt.startswith a b)) S
  | _, _ => .bad
def fFind (x : D) (ys : List D) (S : Sto) : R D := match x, ys with
  | .str a, [.str b] => .ok (.int (Txt.find a b)) S
  | _, _ => .bad
def fIsdig (x : D) (ys : List D) (S : Sto) : R D := match x, ys with
  | .str a, [] => .ok (.bl (Txt.isdigit a)) S
  | _, _ => .bad
def fIsasc (x : D) (ys : List D) (S : Sto) : R D := match x, ys with
  | .str a, [] => .ok (.bl (Txt.isascii a)) S
  | _, _ => .bad
theorem sPart : MzS K (fun x xs H Q => ∃ a b, x = .str a ∧ xs = [.str b] ∧ (b.length == 0) = false ∧ a.length ≤ sizeLine ∧ ∀ p, H p = none → Q (.ref p) (upd H p (.tup [.str (Txt.partition a b).1, .str (Txt.partition a b).2.1, .str (Txt.partition a b).2.2]))) fPart := by
  intro mg W σ ι H S x dx ys dys Q s r rs p
  unfold fPart at p
  split at p
  · split at p
    · rename_i h
      obtain ⟨u, rfl, ru⟩ := rps1 rs
      cases r; cases ru
      refine ⟨_, _, rfl, rfl, h.1, h.2, fun q hq => ?_⟩
      exact p _ _ _ (Ext.new hq) (s.new hq) (.tup (s.out hq) upd_same (.cons (.str _) (.cons (.str _) (.cons (.str _) .nil))))
    · exact p.elim
  · exact p.elim
theorem sStarts : MzS K (fun x xs H Q => ∃ a b, x = .str a ∧ xs = [.str b] ∧ Q (.bl (Txt.startswith a b)) H) fStarts := by
  intro mg W σ ι H S x dx ys dys Q s r rs p
  unfold fStarts at p
  split at p
  · obtain ⟨u, rfl, ru⟩ := rps1 rs
    cases r; cases ru
    exact ⟨_, _, rfl, rfl, p.ret s (.bl _)⟩
  · exact p.elim
theorem sFind : MzS K (fun x xs H Q => ∃ a b, x = .str a ∧ xs = [.str b] ∧ Q (.int (Txt.find a b)) H) fFind := by
  intro mg W σ ι H S x dx ys dys Q s r rs p
  unfold fFind at p
  split at p
  · obtain ⟨u, rfl, ru⟩ := rps1 rs
    cases r; cases ru
    exact ⟨_, _, rfl, rfl, p.ret s (.int _)⟩
  · exact p.elim
theorem sIsdig : MzS K (fun x xs H Q => ∃ a, x = .str a ∧ xs = [] ∧ True ∧ Q (.bl (Txt.isdigit a)) H) fIsdig := by
  intro mg W σ ι H S x dx ys dys Q s r rs p
  unfold fIsdig at p
  split at p
  · cases r; cases rs
    exact ⟨_, rfl, rfl, trivial, p.ret s (.bl _)⟩
  · exact p.elim
theorem sIsasc : MzS K (fun x xs H Q => ∃ a, x = .str a ∧ xs = [] ∧ True ∧ Q (.bl (Txt.isascii a)) H) fIsasc := by
  intro mg W σ ι H S x dx ys dys Q s r rs p
  unfold fIsasc at p
  split at p
  · cases r; cases rs
    exact ⟨_, rfl, rfl, trivial, p.ret s (.bl _)⟩
  · exact p.elim
/-! ### str(n), int(text) -/
def LogOk (i : Int) : Prop := i.natAbs.log2 < 1920
noncomputable instance (i : Int) : Decidable (LogOk i) := Classical.propDecidable _
def fStr (xs : List D) (S : Sto) : R D := match xs with
  | [.int i] => if LogOk i then .ok (.str (toString i)) S else .bad
  | [.str a] => .ok (.str a) S
  | _ => .bad
def fIntT (xs : List D) (S : Sto) : R D := match xs with
  | [.int i] => .ok (.int i) S
  | [.bl b] => .ok (.int (if b then 1 else 0)) S
  | [.str a] => match PySem.intText? a with
    | some n => if a.length ≤ 640 then .ok (.int n) S else .bad
    | none => .bad
  | _ => .bad
theorem callr_or {X : Cx} {f : Value} {r r' : List V → Hp → VK → Prop} (h : CallR X f r) (h' : CallR X f r') : CallR X f (fun xs H Q => r xs H Q ∨ r' xs H Q) := fun pins s σ H xs us Q I rs q => by
  rcases q with q | q
  · exact h pins s σ H xs us Q I rs q
  · exact h' pins s σ H xs us Q I rs q
def rStr (xs : List V) (H : Hp) (Q : VK) : Prop := (∃ i, xs = [.int i] ∧ i.natAbs.log2 < 1920 ∧ Q (.str (toString i)) H) ∨ (∃ a, xs = [.str a] ∧ Q (.str a) H)
theorem cr_str {X : Cx} : CallR X (.type "str") rStr := callr_or call_str_int SkE.call_str_str
theorem sStr : CbS K rStr fStr := by
  intro mg W σ ι H S xs ds Q s r p
  unfold fStr at p
  split at p
  · split at p
    · rename_i h
      obtain ⟨x, rfl, r1⟩ := rps1 r
      cases r1; exact .inl ⟨_, rfl, h, p.ret s (.str _)⟩
    · exact p.elim
  · obtain ⟨x, rfl, r1⟩ := rps1 r
    cases r1; exact .inr ⟨_, rfl, p.ret s (.str _)⟩
  · exact p.elim
def rIntT (xs : List V) (H : Hp) (Q : VK) : Prop := ((∃ i, xs = [.int i] ∧ Q (.int i) H) ∨ ∃ k, xs = [.bl k] ∧ Q (.int (if k then 1 else 0)) H) ∨ (∃ a n, xs = [.str a] ∧ PySem.intText? a = some n ∧ a.length ≤ 640 ∧ Q (.int n) H)
theorem cr_intT {X : Cx} : CallR X (.type "int") rIntT := callr_or call_int1 call_int_str
theorem sIntT : CbS K rIntT fIntT := by
  intro mg W σ ι H S xs ds Q s r p
  unfold fIntT at p
  split at p
  · obtain ⟨x, rfl, r1⟩ := rps1 r
    cases r1; exact .inl (.inl ⟨_, rfl, p.ret s (.int _)⟩)
  · obtain ⟨x, rfl, r1⟩ := rps1 r
    cases r1; exact .inl (.inr ⟨_, rfl, p.ret s (.int _)⟩)
  · split at p
    · rename_i n e
      split at p
      · rename_i h
        obtain ⟨x, rfl, r1⟩ := rps1 r
        cases r1; exact .inr ⟨_, n, rfl, e, h, p.ret s (.int _)⟩
      · exact p.elim
    · exact p.elim
  · exact p.elim
end
/-! ### f-strings -/
def fFmt (x : D) (S : Sto) : R D := match x with
  | .str y => if Fit y.length then .ok (.str y) S else .bad
  | .int i => if LogOk i then .ok (.str (toString i)) S else .bad
  | _ => .bad
def dFmt (d : Den) : Den := fun env S => (d env S).bind fFmt
def dJs : List Den → Str → Den
  | [], acc => fun _ S => .ok (.str acc) S
  | d :: ds, acc => fun env S => (d env S).bind fun x S1 => match x with
    | .str y => if Fit (acc ++ y).length then dJs ds (acc ++ y) env S1 else .bad
    | _ => .bad
section
variable {X : Cx} {W : WX} {e : Expr} {es : List Expr} {d : Den} {ds : List Den} {pos : Pos}
theorem e_fmt (h : EE X W e d) : EE X W (.FormattedValue e (-1) none pos) (dFmt d) := PE.imp (pe_fmt h) fun σ H Q h => by
  obtain ⟨ι, env, S, s, er, p⟩ := h
  refine ⟨ι, env, S, s, er, (Post.bind (Rel' := Rp X.K) p).mono ?_⟩
  rintro x H1 ⟨ι1, dx, S1, e1, s1, r1, p1⟩
  unfold fFmt at p1
  split at p1
  · split at p1
    · rename_i hl
      cases r1; exact .inl ⟨_, rfl, hl, p1.ret s1 (.str _)⟩
    · exact p1.elim
  · split at p1
    · rename_i hl
      cases r1; exact .inr ⟨_, rfl, hl, p1.ret s1 (.str _)⟩
    · exact p1.elim
  · exact p1.elim
abbrev JJ (X : Cx) (W : WX) (es : List Expr) (ds : List Den) : Prop := PJ X es (ds.map (rd X.K X.mg W))
theorem j_nil : JJ X W [] [] := .nil
theorem j_cons (h : EE X W e d) (r : JJ X W es ds) : JJ X W (e :: es) (d :: ds) := .cons h r
theorem tJs_of {K : PySem.W.Frag} {mg : Str → Option Value} {σ : L2.St} {Q : VK} : ∀ (ds : List Den) (acc : Str) (H : Hp), rd K mg W (dJs ds acc) σ H Q → tJs (ds.map (rd K mg W)) acc σ H fun out H1 => Q (.str out) H1
  | [], acc, H, h => by
    obtain ⟨ι, env, S, s, er, p⟩ := h
    exact p.ret s (.str _)
  | d :: ds, acc, H, h => by
    obtain ⟨ι, env, S, s, er, p⟩ := h
    refine ⟨ι, env, S, s, er, (Post.bind (Rel' := Rp K) p).mono ?_⟩
    rintro x H1 ⟨ι1, dx, S1, e1, s1, r1, p1⟩
    split at p1
    · rename_i y
      split at p1
      · rename_i hl
        cases r1
        exact ⟨_, rfl, hl, tJs_of ds (acc ++ y) H1 ⟨ι1, env, S1, s1, er.ext e1, p1⟩⟩
      · exact p1.elim
    · exact p1.elim
theorem e_joined {v1 v2 : Expr} {rest : List Expr} (h : JJ X W (v1 :: v2 :: rest) ds) : EE X W (.JoinedStr (v1 :: v2 :: rest) pos) (dJs ds Str.empty) := PE.imp (pe_joined h) fun σ H Q h => tJs_of ds Str.empty H h
theorem e_joined1 (h : EE X W e d) : EE X W (.JoinedStr [e] pos) d := pe_joined1 h
end
/-! ### walking a text, a list or a tuple -/
def sgn (c : Nat) : D := .str ⟨#[c]⟩
def asAny (x : D) (S : Sto) : R (List D × (Sto → Prop)) := match x with
  | .str z => .ok (z.cps.toList.map sgn, fun _ => True) S
  | x => asSeq x S
def iAny (d : Den) : DenI := fun env S => (d env S).bind asAny
section
variable {X : Cx} {W : WX} {tg l : Expr} {tl : Den}
theorem txt_ok {K : PySem.W.Frag} {z : Str} {ι : Em} {H : Hp} : ItOk K (Its z) (z.cps.toList.map sgn) (fun _ => True) ι H := by
  refine ⟨fun ι2 H2 S2 i x e2 s2 _ hx => ?_, fun ι2 H2 S2 _ _ _ => by show z.cps.size ≤ _; simp⟩
  have hi : i < z.cps.size := by
    have := (List.getElem?_eq_some_iff.mp hx).1
    simpa using this
  refine ⟨hi, fun v H3 y => ?_⟩
  obtain ⟨rfl, c, hc, rfl⟩ := y
  refine ⟨Ext.refl, s2, ?_⟩
  rw [List.getElem?_map, Array.getElem?_toList, hc] at hx
  cases hx
  exact .str _
theorem pi_or {t t' : TI} (h : PI X tg l t) (h' : PI X tg l t') : PI X tg l (fun σ H R => t σ H R ∨ t' σ H R) := ⟨fun pins s σ H R I q => by
  rcases q with q | q
  · exact h.run pins s σ H R I q
  · exact h'.run pins s σ H R I q⟩
def iTxt (d : Den) : DenI := fun env S => (d env S).bind fun x S1 => match x with
  | .str z => .ok (z.cps.toList.map sgn, fun _ => True) S1
  | _ => .bad
theorem i_txt (hl : EE X W l tl) : II X W tg l (iTxt tl) := PI.imp (pi_str hl) fun σ H R h => by
  obtain ⟨ι, env, S, s, er, p⟩ := h
  refine ⟨ι, env, S, s, er, (Post.bind (Rel' := Rp X.K) p).mono ?_⟩
  rintro x H1 ⟨ι1, dx, S1, e1, s1, r1, p1⟩
  split at p1
  · cases r1
    exact ⟨_, rfl, p1 ι1 H1 _ Ext.refl s1 txt_ok⟩
  · exact p1.elim
theorem i_any (hl : EE X W l tl) : II X W tg l (iAny tl) := PI.imp (pi_or (i_txt hl) (i_seq hl)) fun σ H R h => by
  obtain ⟨ι, env, S, s, er, p⟩ := h
  unfold iAny at p
  cases e : tl env S with
  | ok x S1 =>
    rw [e] at p
    cases x with
    | str z => exact .inl ⟨ι, env, S, s, er, by unfold iTxt; rw [e]; exact p⟩
    | _ => exact .inr ⟨ι, env, S, s, er, by unfold iSeq; rw [e]; exact p⟩
  | ex c fs S1 => exact .inr ⟨ι, env, S, s, er, by unfold iSeq; rw [e]; rw [e] at p; exact p⟩
  | bad => exact .inr ⟨ι, env, S, s, er, by unfold iSeq; rw [e]; rw [e] at p; exact p⟩
end
/-! ### in: an item of a list or tuple, a sign of a text -/
def fInT (neg : Bool) (x y : D) (S : Sto) : R D := match y with
  | .str z => match x with
    | .str w => match w.cps.toList with
      | [c] => .ok (.bl (if neg then !decide (c ∈ z.cps.toList) else decide (c ∈ z.cps.toList))) S
      | _ => .bad
    | _ => .bad
  | y => fIn neg x y S
def rInT (K : PySem.W.Frag) (neg : Bool) : R2 := fun x y H Q => rIn K neg x y H Q ∨ (∃ (c : Nat) (z : Str), x = .str ⟨#[c]⟩ ∧ y = .str z ∧ Q (.bl (if neg then !decide (c ∈ z.cps.toList) else decide (c ∈ z.cps.toList))) H)
theorem oInT {X : Cx} : OpR X (compareOp .In) (rInT X.K false) := op_in_seq.or op_in_sign
theorem oNotInT {X : Cx} : OpR X (compareOp .NotIn) (rInT X.K true) := op_notIn_seq.or op_notIn_sign
theorem sInT {K : PySem.W.Frag} {neg : Bool} : OpS K (rInT K neg) (fInT neg) := by
  intro mg W σ ι H S x y dx dy Q s rx ry p
  unfold fInT at p
  split at p
  · split at p
    · rename_i w
      split at p
      · rename_i c hc
        cases rx; cases ry
        have hw : w = ⟨#[c]⟩ := by
          cases w with | mk a => cases a with | mk l => simp only at hc; rw [hc]
        exact .inr ⟨c, _, by rw [hw], rfl, p.ret s (.bl _)⟩
      · exact p.elim
    · exact p.elim
  · exact .inl (sIn mg W σ ι H S x y _ _ Q s rx ry p)
/-! ### a text times a number -/
def rMulS : R2 := fun x y H Q => ∃ (a : Str) (k : Int), x = .str a ∧ y = .int k ∧ 2 ≤ k ∧ k ≤ 10000 ∧ 1 ≤ a.length ∧ a.length ≤ 1000 ∧ Q (.str ⟨(List.replicate k.toNat a.cps).foldl (· ++ ·) #[]⟩) H
theorem rep_size (a : Array Nat) : ∀ (n : Nat) (acc : Array Nat), ((List.replicate n a).foldl (· ++ ·) acc).size = acc.size + n * a.size
  | 0, acc => by simp
  | n + 1, acc => by
    rw [List.replicate_succ, List.foldl_cons, rep_size a n, Array.size_append, Nat.succ_mul]
    omega
theorem op_mulS {X : Cx} : OpR X (binaryOp .Mult) rMulS := by
  intro pins s σ H x y v u Q I rx ry h
  obtain ⟨a, k, rfl, rfl, k2, kk, a1, aa, q⟩ := h
  obtain ⟨t, rfl⟩ := rx
  obtain ⟨t', rfl⟩ := ry
  have n1 : ¬ k < 1 := by omega
  have e1 : (k == 1 || a.length == 0) = false := by
    have h1 : (k == 1) = false := by simp; omega
    have h2 : (a.length == 0) = false := by simp; omega
    rw [h1, h2]; rfl
  have l : a.length * k.toNat ≤ sizeLine := by
    have : a.length * k.toNat ≤ 1000 * 10000 := Nat.mul_le_mul aa (by omega)
    exact Nat.le_trans this (by decide)
  refine PySem.P.mul_str ?_ (fun _ _ => ?_) (fun _ _ => ?_) ?_
  · rw [decide_eq_false (by omega), decide_eq_false (by omega)]; rfl
  · have : k * 1000 ≤ 2 ^ 63 - 1 := by omega
    have := (Int.le_ediv_iff_mul_le (by omega : 0 < k)).mpr (by omega : 1000 * k ≤ 2 ^ 63 - 1)
    omega
  · unfold PySem.Builtin.Str.tooLong
    rw [decide_eq_false (by omega)]
  · rw [if_neg n1, e1]
    refine ⟨?_, ?_⟩
    · show Array.size _ ≤ _
      rw [rep_size, Array.size_empty, Nat.zero_add, Nat.mul_comm]
      exact l
    · exact ⟨.str _, H, I.tok _, ⟨_, rfl⟩, q⟩
def repS (a : Str) (k : Int) : Str := ⟨(List.replicate k.toNat a.cps).foldl (· ++ ·) #[]⟩
def fMulS (x y : D) (S : Sto) : R D := match x, y with
  | .str a, .int k => if 2 ≤ k ∧ k ≤ 10000 ∧ 1 ≤ a.length ∧ a.length ≤ 1000 then .ok (.str (repS a k)) S else .bad
  | _, _ => .bad
theorem sMulS {K : PySem.W.Frag} : OpS K rMulS fMulS := by
  intro mg W σ ι H S x y dx dy Q s rx ry p
  unfold fMulS at p
  split at p
  · split at p
    · rename_i h
      cases rx; cases ry
      exact ⟨_, _, rfl, rfl, h.1, h.2.1, h.2.2.1, h.2.2.2, p.ret s (.str _)⟩
    · exact p.elim
  · exact p.elim
end
end Z
end

section
set_option Elab.async false
set_option linter.all false
set_option maxRecDepth 100000
set_option maxHeartbeats 4000000
namespace K05
open PySem PySem.Spec PyProof.Rows L2 Z
def topS (i : Nat) : Stmt := PySem.Challenge.pw_bellrest_k05_span_texts.main.body.getD i (.Pass ⟨0, 0, 0, 0⟩)
abbrev sInvalidMoment : Stmt := inClass (topS 2) 0
abbrev sInvalidSpan : Stmt := inClass (topS 3) 0
abbrev sInvalidTable : Stmt := inClass (topS 4) 0
theorem scInvalidMoment : FnScope ["self", "value"] ["self", "value"] (defScope sInvalidMoment) := ⟨rfl, rfl, rfl, by decide +kernel, rfl, by decide +kernel, by decide +kernel⟩
theorem scInvalidSpan : FnScope ["self", "value"] ["self", "value"] (defScope sInvalidSpan) := ⟨rfl, rfl, rfl, by decide +kernel, rfl, by decide +kernel, by decide +kernel⟩
theorem scInvalidTable : FnScope ["self", "value"] ["self", "value"] (defScope sInvalidTable) := ⟨rfl, rfl, rfl, by decide +kernel, rfl, by decide +kernel, by decide +kernel⟩
abbrev sis_whole : Stmt := topS 6
abbrev Nis_whole : List Str := ["value"]
theorem scis_whole : FnScope Nis_whole ["value"] (defScope sis_whole) := ⟨rfl, rfl, rfl, by decide +kernel, rfl, by decide +kernel, by decide +kernel⟩
abbrev sis_tuple_of : Stmt := topS 7
abbrev Nis_tuple_of : List Str := ["size", "value"]
theorem scis_tuple_of : FnScope Nis_tuple_of ["size", "value"] (defScope sis_tuple_of) := ⟨rfl, rfl, rfl, by decide +kernel, rfl, by decide +kernel, by decide +kernel⟩
abbrev sis_numeral : Stmt := topS 8
abbrev Nis_numeral : List Str := ["value"]
theorem scis_numeral : FnScope Nis_numeral ["value"] (defScope sis_numeral) := ⟨rfl, rfl, rfl, by decide +kernel, rfl, by decide +kernel, by decide +kernel⟩
abbrev sis_edge : Stmt := topS 11
abbrev Nis_edge : List Str := ["value", "limit", "reach"]
theorem scis_edge : FnScope Nis_edge ["value"] (defScope sis_edge) := ⟨rfl, rfl, rfl, by decide +kernel, rfl, by decide +kernel, by decide +kernel⟩
abbrev sis_span : Stmt := topS 12
abbrev Nis_span : List Str := ["value", "low", "high"]
theorem scis_span : FnScope Nis_span ["value"] (defScope sis_span) := ⟨rfl, rfl, rfl, by decide +kernel, rfl, by decide +kernel, by decide +kernel⟩
abbrev shas_moment : Stmt := topS 13
abbrev Nhas_moment : List Str := ["low", "high"]
theorem schas_moment : FnScope Nhas_moment ["low", "high"] (defScope shas_moment) := ⟨rfl, rfl, rfl, by decide +kernel, rfl, by decide +kernel, by decide +kernel⟩
abbrev sspan_text : Stmt := topS 14
abbrev Nspan_text : List Str := ["span", "low", "high", "first", "last"]
theorem scspan_text : FnScope Nspan_text ["span"] (defScope sspan_text) := ⟨rfl, rfl, rfl, by decide +kernel, rfl, by decide +kernel, by decide +kernel⟩
abbrev sread_span : Stmt := topS 15
abbrev Nread_span : List Str := ["text", "found"]
theorem scread_span : FnScope Nread_span ["text"] (defScope sread_span) := ⟨rfl, rfl, rfl, by decide +kernel, rfl, by decide +kernel, by decide +kernel⟩
abbrev sis_limit_text : Stmt := topS 16
abbrev Nis_limit_text : List Str := ["value"]
theorem scis_limit_text : FnScope Nis_limit_text ["value"] (defScope sis_limit_text) := ⟨rfl, rfl, rfl, by decide +kernel, rfl, by decide +kernel, by decide +kernel⟩
abbrev sspan_in_text : Stmt := topS 17
abbrev Nspan_in_text : List Str := ["text", "first", "last", "low", "comma", "high", "low_edge", "found"]
theorem scspan_in_text : FnScope Nspan_in_text ["text"] (defScope sspan_in_text) := ⟨rfl, rfl, rfl, by decide +kernel, rfl, by decide +kernel, by decide +kernel⟩
abbrev s_law_box : Stmt := topS 19
abbrev N_law_box : List Str := ["script", "great", "state", "cell"]
theorem sc_law_box : FnScope N_law_box ["script"] (defScope s_law_box) := ⟨rfl, rfl, rfl, by decide +kernel, rfl, by decide +kernel, by decide +kernel⟩
abbrev s_law_draw : Stmt := topS 20
abbrev N_law_draw : List Str := ["box", "size", "digit", "mixed"]
theorem sc_law_draw : FnScope N_law_draw ["box", "size"] (defScope s_law_draw) := ⟨rfl, rfl, rfl, by decide +kernel, rfl, by decide +kernel, by decide +kernel⟩
abbrev s_law_pick : Stmt := topS 21
abbrev N_law_pick : List Str := ["box", "row"]
theorem sc_law_pick : FnScope N_law_pick ["box", "row"] (defScope s_law_pick) := ⟨rfl, rfl, rfl, by decide +kernel, rfl, by decide +kernel, by decide +kernel⟩
abbrev s_law_same : Stmt := topS 22
abbrev N_law_same : List Str := ["actual", "due", "k"]
theorem sc_law_same : FnScope N_law_same ["actual", "due"] (defScope s_law_same) := ⟨rfl, rfl, rfl, by decide +kernel, rfl, by decide +kernel, by decide +kernel⟩
abbrev s_law_limit : Stmt := topS 23
abbrev N_law_limit : List Str := ["box"]
theorem sc_law_limit : FnScope N_law_limit ["box"] (defScope s_law_limit) := ⟨rfl, rfl, rfl, by decide +kernel, rfl, by decide +kernel, by decide +kernel⟩
abbrev s_law_span : Stmt := topS 24
abbrev N_law_span : List Str := ["box", "low", "reach", "choice", "high"]
theorem sc_law_span : FnScope N_law_span ["box"] (defScope s_law_span) := ⟨rfl, rfl, rfl, by decide +kernel, rfl, by decide +kernel, by decide +kernel⟩
abbrev s_law_text : Stmt := topS 25
abbrev N_law_text : List Str := ["pair", "text"]
theorem sc_law_text : FnScope N_law_text ["pair"] (defScope s_law_text) := ⟨rfl, rfl, rfl, by decide +kernel, rfl, by decide +kernel, by decide +kernel⟩
abbrev s_law_digits : Stmt := topS 26
abbrev N_law_digits : List Str := ["word", "sign"]
theorem sc_law_digits : FnScope N_law_digits ["word"] (defScope s_law_digits) := ⟨rfl, rfl, rfl, by decide +kernel, rfl, by decide +kernel, by decide +kernel⟩
abbrev s_law_meant : Stmt := topS 27
abbrev N_law_meant : List Str := ["text", "comma", "left", "right", "low", "high"]
theorem sc_law_meant : FnScope N_law_meant ["text"] (defScope s_law_meant) := ⟨rfl, rfl, rfl, by decide +kernel, rfl, by decide +kernel, by decide +kernel⟩
abbrev s_law_bent : Stmt := topS 28
abbrev N_law_bent : List Str := ["box", "text", "signs", "place", "sign", "choice"]
theorem sc_law_bent : FnScope N_law_bent ["box", "text"] (defScope s_law_bent) := ⟨rfl, rfl, rfl, by decide +kernel, rfl, by decide +kernel, by decide +kernel⟩
abbrev s_law_odd : Stmt := topS 29
abbrev N_law_odd : List Str := ["box", "row"]
theorem sc_law_odd : FnScope N_law_odd ["box"] (defScope s_law_odd) := ⟨rfl, rfl, rfl, by decide +kernel, rfl, by decide +kernel, by decide +kernel⟩
abbrev s_law_long : Stmt := topS 30
abbrev N_law_long : List Str := ["box", "size", "text", "k"]
theorem sc_law_long : FnScope N_law_long ["box", "size"] (defScope s_law_long) := ⟨rfl, rfl, rfl, by decide +kernel, rfl, by decide +kernel, by decide +kernel⟩
abbrev s_law_wide_text : Stmt := topS 31
abbrev N_law_wide_text : List Str := ["box", "left", "right", "choice"]
theorem sc_law_wide_text : FnScope N_law_wide_text ["box"] (defScope s_law_wide_text) := ⟨rfl, rfl, rfl, by decide +kernel, rfl, by decide +kernel, by decide +kernel⟩
abbrev s_law_string : Stmt := topS 32
abbrev N_law_string : List Str := ["box", "text", "choice", "k", "word"]
theorem sc_law_string : FnScope N_law_string ["box", "text"] (defScope s_law_string) := ⟨rfl, rfl, rfl, by decide +kernel, rfl, by decide +kernel, by decide +kernel⟩
abbrev s_law_told : Stmt := topS 33
abbrev N_law_told : List Str := ["text", "e", "right"]
theorem sc_law_told : FnScope N_law_told ["text"] (defScope s_law_told) := ⟨rfl, rfl, rfl, by decide +kernel, rfl, by decide +kernel, by decide +kernel⟩
abbrev slaw : Stmt := topS 34
abbrev Nlaw : List Str := ["script", "box", "one", "good", "k", "text", "meant", "due", "turn", "fits"]
theorem sclaw : FnScope Nlaw ["script"] (defScope slaw) := ⟨rfl, rfl, rfl, by decide +kernel, rfl, by decide +kernel, by decide +kernel⟩
/-! ### what the defs compute -/
noncomputable def Fis_whole : FD := fnF 1 (sRet (dAnd (dIsi .int (dVar 0)) (dNot (dIsi .bool (dVar 0)))))
noncomputable def Fis_tuple_of : FD := fnF 2 (sRet (dAnd (dIsi .tup (dVar 1)) (bin (fEq false) (dCB fLen (aCons (dVar 1) (aNil))) (dVar 0))))
noncomputable def Fis_numeral : FD := fnF 1 (sSeq (sIf (tNot' (tB' (dIsi .str (dVar 0)))) (sRet (dC (.bl false))) (sNil)) (sSeq (sIf (tNot' (tAnd' (tB' (dBM0 .str fIsasc (dVar 0))) (tB' (dBM0 .str fIsdig (dVar 0))))) (sRet (dC (.bl false))) (sNil)) (sRet (dOr (bin (fEq false) (dVar 0) (dC (.str (PySem.Str.ofString "0")))) (dNot (dBM .str fStarts (dVar 0) (aCons (dC (.str (PySem.Str.ofString "0"))) (aNil))))))))
noncomputable def Fis_edge : FD := fnF 3 (sSeq (sIf (tNot' (tB' (dCall (arity 2 Fis_tuple_of) [] (aCons (dC (.int 2)) (aCons (dVar 0) (aNil)))))) (sRet (dC (.bl false))) (sNil)) (sSeq (sAsg (gT [gN 1, gN 2]) (dVar 0)) (sRet (dAnd (dCall (arity 1 Fis_whole) [] (aCons (dVar 1) (aNil))) (dAnd (dCall (arity 1 Fis_whole) [] (aCons (dVar 2) (aNil))) (bin (fInT false) (dVar 2) (dTup (aCons (dC (.int 0)) (aCons (dC (.int 1)) (aNil))))))))))
noncomputable def Fhas_moment : FD := fnF 2 (sSeq (sIf (tOr' (tB' (dIsN (dVar 1))) (tB' (bin fGt (bin fIx (dVar 1) (dC (.int 0))) (bin fIx (dVar 0) (dC (.int 0)))))) (sRet (dC (.bl true))) (sNil)) (sRet (dAnd (bin (fEq false) (bin fIx (dVar 1) (dC (.int 0))) (bin fIx (dVar 0) (dC (.int 0)))) (dAnd (bin (fEq false) (bin fIx (dVar 1) (dC (.int 1))) (dC (.int 1))) (bin (fEq false) (bin fIx (dVar 0) (dC (.int 1))) (dC (.int 1)))))))
noncomputable def Fis_span : FD := fnF 3 (sSeq (sIf (tNot' (tB' (dCall (arity 2 Fis_tuple_of) [] (aCons (dC (.int 2)) (aCons (dVar 0) (aNil)))))) (sRet (dC (.bl false))) (sNil)) (sSeq (sAsg (gT [gN 1, gN 2]) (dVar 0)) (sSeq (sIf (tNot' (tAnd' (tB' (dCall (arity 1 Fis_edge) [] (aCons (dVar 1) (aNil)))) (tB' (bin fGe (bin fIx (dVar 1) (dC (.int 0))) (dC (.int 0)))))) (sRet (dC (.bl false))) (sNil)) (sRet (dOr (dIsN (dVar 2)) (dAnd (dCall (arity 1 Fis_edge) [] (aCons (dVar 2) (aNil))) (dCall (arity 2 Fhas_moment) [] (aCons (dVar 1) (aCons (dVar 2) (aNil))))))))))
noncomputable def Fspan_text : FD := fnF 5 (sSeq (sAsg (gT [gN 1, gN 2]) (dVar 0)) (sSeq (sSet 3 (dIf (tB' (bin (fEq false) (bin fIx (dVar 1) (dC (.int 1))) (dC (.int 1)))) (dC (.str (PySem.Str.ofString "["))) (dC (.str (PySem.Str.ofString "("))))) (sSeq (sIf (tB' (dIsN (dVar 2))) (sRet (dJs [dFmt (dVar 3), dFmt (bin fIx (dVar 1) (dC (.int 0))), dC (.str (PySem.Str.ofString ",)"))] PySem.Str.empty)) (sNil)) (sSeq (sSet 4 (dIf (tB' (bin (fEq false) (bin fIx (dVar 2) (dC (.int 1))) (dC (.int 1)))) (dC (.str (PySem.Str.ofString "]"))) (dC (.str (PySem.Str.ofString ")"))))) (sRet (dJs [dFmt (dVar 3), dFmt (bin fIx (dVar 1) (dC (.int 0))), dC (.str (PySem.Str.ofString ",")), dFmt (bin fIx (dVar 2) (dC (.int 0))), dFmt (dVar 4)] PySem.Str.empty))))))
noncomputable def Fis_limit_text : FD := fnF 1 (sRet (dAnd (dCall (arity 1 Fis_numeral) [] (aCons (dVar 0) (aNil))) (bin fLe (dCB fLen (aCons (dVar 0) (aNil))) (dC (.int 9)))))
noncomputable def Fspan_in_text : FD := fnF 8 (sSeq (sPar 1 2 (aCons (dSl false (dVar 0) (oNone) (oSome (dC (.int 1)))) (aCons (dSl false (dVar 0) (oSome (un fNeg (dC (.int 1)))) (oNone)) (aNil)))) (sSeq (sAsg (gT [gN 3, gN 4, gN 5]) (dBM .str fPart (dSl false (dVar 0) (oSome (dC (.int 1))) (oSome (un fNeg (dC (.int 1))))) (aCons (dC (.str (PySem.Str.ofString ","))) (aNil)))) (sSeq (sIf (tOr' (tB' (bin (fInT true) (dVar 1) (dTup (aCons (dC (.str (PySem.Str.ofString "["))) (aCons (dC (.str (PySem.Str.ofString "("))) (aNil)))))) (tOr' (tB' (bin (fEq false) (dVar 4) (dC (.str (PySem.Str.ofString ""))))) (tNot' (tB' (dCall (arity 1 Fis_limit_text) [] (aCons (dVar 3) (aNil))))))) (sRet (dC .non)) (sNil)) (sSeq (sSet 6 (dTup (aCons (dCB fIntT (aCons (dVar 3) (aNil))) (aCons (dIf (tB' (bin (fEq false) (dVar 1) (dC (.str (PySem.Str.ofString "["))))) (dC (.int 1)) (dC (.int 0))) (aNil))))) (sSeq (sIf (tB' (bin (fEq false) (dVar 5) (dC (.str (PySem.Str.ofString ""))))) (sRet (dIf (tB' (bin (fEq false) (dVar 2) (dC (.str (PySem.Str.ofString ")"))))) (dTup (aCons (dVar 6) (aCons (dC .non) (aNil)))) (dC .non))) (sNil)) (sSeq (sIf (tOr' (tB' (bin (fInT true) (dVar 2) (dTup (aCons (dC (.str (PySem.Str.ofString "]"))) (aCons (dC (.str (PySem.Str.ofString ")"))) (aNil)))))) (tNot' (tB' (dCall (arity 1 Fis_limit_text) [] (aCons (dVar 5) (aNil)))))) (sRet (dC .non)) (sNil)) (sSeq (sSet 7 (dTup (aCons (dVar 6) (aCons (dTup (aCons (dCB fIntT (aCons (dVar 5) (aNil))) (aCons (dIf (tB' (bin (fEq false) (dVar 2) (dC (.str (PySem.Str.ofString "]"))))) (dC (.int 1)) (dC (.int 0))) (aNil)))) (aNil))))) (sRet (dIf (tB' (dCall (arity 1 Fis_span) [] (aCons (dVar 7) (aNil)))) (dVar 7) (dC .non))))))))))
noncomputable def Fread_span : FD := fnF 2 (sSeq (sSet 1 (dCall (arity 1 Fspan_in_text) [] (aCons (dVar 0) (aNil)))) (sSeq (sIf (tB' (dIsN (dVar 1))) (sRaise "InvalidSpan" ["value"] (aCons (dVar 0) (aNil))) (sNil)) (sRet (dVar 1))))
noncomputable def F_law_box : FD := fnF 4 (sSeq (sSet 1 (dLst true (aNil))) (sSeq (sSet 2 (bin fPlus (dC (.int 101)) (dCB fLen (aCons (dSl false (dVar 0) (oNone) (oSome (dC (.int 63)))) (aNil))))) (sSeq (sFor (iAny (dSl false (dVar 0) (oNone) (oSome (dC (.int 63))))) (gN 3) (sIf (tB' (bin fGe (dVar 3) (bin fPow (dC (.int 10)) (dC (.int 18))))) (sDrop (dBM .list fApp (dVar 1) (aCons (dVar 3) (aNil)))) (sSet 2 (bin fMod (dCB fIntT (aCons (bin fPlus (bin fPlus (bin fMul (dVar 2) (dC (.int 48271))) (bin fMul (dVar 3) (dC (.int 69621)))) (dC (.int 7))) (aNil))) (dC (.int 2147483647)))))) (sSeq (sDrop (dBM0 .list fRevM (dVar 1))) (sRet (dLst true (aCons (dC (.int 0)) (aCons (dVar 1) (aCons (dVar 2) (aCons (dC (.int 0)) (aNil)))))))))))
noncomputable def F_law_draw : FD := fnF 4 (sSeq (sIf (tAnd' (tB' (bin fLt (bin fIx (dVar 0) (dC (.int 0))) (dC (.int 1)))) (tB' (bin (fEq true) (bin fIx (dVar 0) (dC (.int 1))) (dLst false (aNil))))) (sPut (dVar 0) (dC (.int 0)) (dBM0 .list fPop (bin fIx (dVar 0) (dC (.int 1))))) (sNil)) (sSeq (sIf (tB' (bin fGt (bin fIx (dVar 0) (dC (.int 0))) (dC (.int 0)))) (sSeq (sSet 2 (bin fMod (dCB fIntT (aCons (bin fIx (dVar 0) (dC (.int 0))) (aNil))) (dVar 1))) (sSeq (sPut (dVar 0) (dC (.int 0)) (bin fDiv (bin fIx (dVar 0) (dC (.int 0))) (dVar 1))) (sRet (dVar 2)))) (sNil)) (sSeq (sPut (dVar 0) (dC (.int 3)) (bin fPlus (bin fIx (dVar 0) (dC (.int 3))) (dC (.int 1)))) (sSeq (sPut (dVar 0) (dC (.int 2)) (bin fMod (dCB fIntT (aCons (bin fPlus (bin fPlus (bin fMul (bin fIx (dVar 0) (dC (.int 2))) (dC (.int 48271))) (bin fMul (bin fIx (dVar 0) (dC (.int 3))) (dC (.int 69621)))) (dC (.int 5))) (aNil))) (dC (.int 2147483647)))) (sSeq (sSet 3 (bin fMod (dCB fIntT (aCons (bin fPlus (bin fPlus (bin fMul (bin fIx (dVar 0) (dC (.int 2))) (dC (.int 39373))) (bin fMul (bin fIx (dVar 0) (dC (.int 3))) (dC (.int 40692)))) (dC (.int 3))) (aNil))) (dC (.int 2147483399)))) (sRet (bin fMod (bin fDiv (dVar 3) (dC (.int 32))) (dVar 1))))))))
noncomputable def F_law_pick : FD := fnF 2 (sRet (bin fIx (dVar 1) (dCall (arity 2 F_law_draw) [] (aCons (dVar 0) (aCons (dCB fLen (aCons (dVar 1) (aNil))) (aNil))))))
noncomputable def F_law_same : Nat → FD
  | 0 => fun _ _ => .bad
  | n + 1 => fnF 3 (sSeq (sIf (tB' (dIsN (dVar 1))) (sRet (dIsN (dVar 0))) (sNil)) (sSeq (sIf (tB' (dIsB true (dVar 1))) (sRet (dIsB true (dVar 0))) (sNil)) (sSeq (sIf (tB' (dIsB false (dVar 1))) (sRet (dIsB false (dVar 0))) (sNil)) (sSeq (sIf (tB' (dIsi .tup (dVar 1))) (sSeq (sIf (tOr' (tNot' (tB' (dIsi .tup (dVar 0)))) (tB' (bin (fEq true) (dCB fLen (aCons (dVar 0) (aNil))) (dCB fLen (aCons (dVar 1) (aNil)))))) (sRet (dC (.bl false))) (sNil)) (sRet (dCB fAll (aCons (dLc false (iRng1 (aCons (dCB fLen (aCons (dVar 1) (aNil))) (aNil))) [2] (gN 2) (tYesD) (dCall (arity 2 (F_law_same n)) [] (aCons (bin fIx (dVar 0) (dVar 2)) (aCons (bin fIx (dVar 1) (dVar 2)) (aNil))))) aNil)))) (sNil)) (sSeq (sIf (tB' (dIsi .str (dVar 1))) (sRet (dAnd (dIsi .str (dVar 0)) (bin (fEq false) (dVar 0) (dVar 1)))) (sNil)) (sRet (dAnd (dIsi .int (dVar 0)) (dAnd (dNot (dIsi .bool (dVar 0))) (bin (fEq false) (dVar 0) (dVar 1))))))))))
noncomputable def F_law_limit : FD := fnF 1 (sRet (dCall (arity 2 F_law_draw) [] (aCons (dVar 0) (aCons (dCall (arity 2 F_law_pick) [] (aCons (dVar 0) (aCons (dLst false (aCons (dC (.int 3)) (aCons (dC (.int 4)) (aCons (dC (.int 10)) (aCons (dC (.int 100)) (aNil)))))) (aNil)))) (aNil)))))
noncomputable def F_law_span : FD := fnF 5 (sSeq (sSet 1 (dCall (arity 1 F_law_limit) [] (aCons (dVar 0) (aNil)))) (sSeq (sSet 2 (dCall (arity 2 F_law_draw) [] (aCons (dVar 0) (aCons (dC (.int 2)) (aNil))))) (sSeq (sSet 3 (dCall (arity 2 F_law_draw) [] (aCons (dVar 0) (aCons (dC (.int 5)) (aNil))))) (sSeq (sIf (tB' (bin (fEq false) (dVar 3) (dC (.int 0)))) (sRet (dTup (aCons (dTup (aCons (dVar 1) (aCons (dVar 2) (aNil)))) (aCons (dC .non) (aNil))))) (sNil)) (sSeq (sIf (tOr' (tB' (bin (fEq false) (dVar 3) (dC (.int 1)))) (tB' (bin (fEq false) (dVar 1) (dC (.int 99))))) (sRet (dTup (aCons (dTup (aCons (dVar 1) (aCons (dC (.int 1)) (aNil)))) (aCons (dTup (aCons (dVar 1) (aCons (dC (.int 1)) (aNil)))) (aNil))))) (sNil)) (sSeq (sSet 4 (dCB fMin2 (aCons (dC (.int 99)) (aCons (bin fPlus (bin fPlus (dVar 1) (dC (.int 1))) (dCall (arity 2 F_law_draw) [] (aCons (dVar 0) (aCons (dCall (arity 2 F_law_pick) [] (aCons (dVar 0) (aCons (dLst false (aCons (dC (.int 1)) (aCons (dC (.int 2)) (aCons (dC (.int 4)) (aCons (dC (.int 99)) (aNil)))))) (aNil)))) (aNil))))) (aNil))))) (sRet (dTup (aCons (dTup (aCons (dVar 1) (aCons (dVar 2) (aNil)))) (aCons (dTup (aCons (dVar 4) (aCons (dCall (arity 2 F_law_draw) [] (aCons (dVar 0) (aCons (dC (.int 2)) (aNil)))) (aNil)))) (aNil)))))))))))
noncomputable def F_law_text : FD := fnF 2 (sSeq (sSet 1 (bin fPlus (bin fPlus (bin fIx (dC (.str (PySem.Str.ofString "(["))) (bin fIx (bin fIx (dVar 0) (dC (.int 0))) (dC (.int 1)))) (dCB fStr (aCons (bin fIx (bin fIx (dVar 0) (dC (.int 0))) (dC (.int 0))) (aNil)))) (dC (.str (PySem.Str.ofString ","))))) (sSeq (sIf (tB' (dIsN (bin fIx (dVar 0) (dC (.int 1))))) (sRet (bin fPlus (dVar 1) (dC (.str (PySem.Str.ofString ")"))))) (sNil)) (sRet (bin fPlus (bin fPlus (dVar 1) (dCB fStr (aCons (bin fIx (bin fIx (dVar 0) (dC (.int 1))) (dC (.int 0))) (aNil)))) (bin fIx (dC (.str (PySem.Str.ofString ")]"))) (bin fIx (bin fIx (dVar 0) (dC (.int 1))) (dC (.int 1))))))))
noncomputable def F_law_digits : FD := fnF 2 (sSeq (sIf (tOr' (tB' (bin (fEq false) (dVar 0) (dC (.str (PySem.Str.ofString ""))))) (tOr' (tB' (bin fGt (dCB fLen (aCons (dVar 0) (aNil))) (dC (.int 9)))) (tAnd' (tB' (bin fGt (dCB fLen (aCons (dVar 0) (aNil))) (dC (.int 1)))) (tB' (bin (fEq false) (bin fIx (dVar 0) (dC (.int 0))) (dC (.str (PySem.Str.ofString "0")))))))) (sRet (dC (.bl false))) (sNil)) (sRet (dCB fAll (aCons (dLc false (iAny (dVar 0)) [1] (gN 1) (tYesD) (bin (fInT false) (dVar 1) (dC (.str (PySem.Str.ofString "0123456789"))))) aNil))))
noncomputable def F_law_meant : FD := fnF 6 (sSeq (sIf (tOr' (tB' (bin fLt (dCB fLen (aCons (dVar 0) (aNil))) (dC (.int 4)))) (tOr' (tB' (bin (fInT true) (bin fIx (dVar 0) (dC (.int 0))) (dC (.str (PySem.Str.ofString "[("))))) (tB' (bin (fInT true) (bin fIx (dVar 0) (un fNeg (dC (.int 1)))) (dC (.str (PySem.Str.ofString "])"))))))) (sRet (dC .non)) (sNil)) (sSeq (sSet 1 (dBM .str fFind (dVar 0) (aCons (dC (.str (PySem.Str.ofString ","))) (aNil)))) (sSeq (sIf (tB' (bin fLt (dVar 1) (dC (.int 0)))) (sRet (dC .non)) (sNil)) (sSeq (sSet 2 (dSl false (dVar 0) (oSome (dC (.int 1))) (oSome (dVar 1)))) (sSeq (sSet 3 (dSl false (dVar 0) (oSome (bin fPlus (dVar 1) (dC (.int 1)))) (oSome (un fNeg (dC (.int 1)))))) (sSeq (sIf (tNot' (tB' (dCall (arity 1 F_law_digits) [] (aCons (dVar 2) (aNil))))) (sRet (dC .non)) (sNil)) (sSeq (sSet 4 (dTup (aCons (dCB fIntT (aCons (dVar 2) (aNil))) (aCons (dCB fIntT (aCons (bin (fEq false) (bin fIx (dVar 0) (dC (.int 0))) (dC (.str (PySem.Str.ofString "[")))) (aNil))) (aNil))))) (sSeq (sIf (tB' (bin (fEq false) (dVar 3) (dC (.str (PySem.Str.ofString ""))))) (sSeq (sIf (tB' (bin (fEq false) (bin fIx (dVar 0) (un fNeg (dC (.int 1)))) (dC (.str (PySem.Str.ofString "]"))))) (sRet (dC .non)) (sNil)) (sRet (dTup (aCons (dVar 4) (aCons (dC .non) (aNil)))))) (sNil)) (sSeq (sIf (tNot' (tB' (dCall (arity 1 F_law_digits) [] (aCons (dVar 3) (aNil))))) (sRet (dC .non)) (sNil)) (sSeq (sSet 5 (dTup (aCons (dCB fIntT (aCons (dVar 3) (aNil))) (aCons (dCB fIntT (aCons (bin (fEq false) (bin fIx (dVar 0) (un fNeg (dC (.int 1)))) (dC (.str (PySem.Str.ofString "]")))) (aNil))) (aNil))))) (sSeq (sIf (tOr' (tB' (bin fLt (bin fIx (dVar 5) (dC (.int 0))) (bin fIx (dVar 4) (dC (.int 0))))) (tAnd' (tB' (bin (fEq false) (bin fIx (dVar 5) (dC (.int 0))) (bin fIx (dVar 4) (dC (.int 0))))) (tB' (bin fLt (bin fPlus (bin fIx (dVar 4) (dC (.int 1))) (bin fIx (dVar 5) (dC (.int 1)))) (dC (.int 2)))))) (sRet (dC .non)) (sNil)) (sRet (dTup (aCons (dVar 4) (aCons (dVar 5) (aNil))))))))))))))))
noncomputable def F_law_bent : FD := fnF 6 (sSeq (sSet 2 (dC (.str (PySem.Str.ofString "0123456789[](),/ -+.x\n")))) (sSeq (sSet 3 (dCall (arity 2 F_law_draw) [] (aCons (dVar 0) (aCons (bin fPlus (dCB fLen (aCons (dVar 1) (aNil))) (dC (.int 1))) (aNil))))) (sSeq (sSet 4 (dCall (arity 2 F_law_pick) [] (aCons (dVar 0) (aCons (dVar 2) (aNil))))) (sSeq (sSet 5 (dCall (arity 2 F_law_draw) [] (aCons (dVar 0) (aCons (dC (.int 5)) (aNil))))) (sSeq (sIf (tB' (bin (fEq false) (dVar 5) (dC (.int 0)))) (sRet (bin fPlus (bin fPlus (dSl false (dVar 1) (oNone) (oSome (dVar 3))) (dVar 4)) (dSl false (dVar 1) (oSome (dVar 3)) (oNone)))) (sNil)) (sSeq (sIf (tB' (bin (fEq false) (dVar 5) (dC (.int 1)))) (sRet (bin fPlus (bin fPlus (dSl false (dVar 1) (oNone) (oSome (dVar 3))) (dVar 4)) (dSl false (dVar 1) (oSome (bin fPlus (dVar 3) (dC (.int 1)))) (oNone)))) (sNil)) (sSeq (sIf (tB' (bin (fEq false) (dVar 5) (dC (.int 2)))) (sRet (bin fPlus (dSl false (dVar 1) (oNone) (oSome (dVar 3))) (dSl false (dVar 1) (oSome (bin fPlus (dVar 3) (dC (.int 1)))) (oNone)))) (sNil)) (sSeq (sIf (tB' (bin (fEq false) (dVar 5) (dC (.int 3)))) (sRet (bin fPlus (bin fPlus (dSl false (dVar 1) (oNone) (oSome (dVar 3))) (dSl false (dVar 1) (oSome (dVar 3)) (oSome (bin fPlus (dVar 3) (dC (.int 1)))))) (dSl false (dVar 1) (oSome (dVar 3)) (oNone)))) (sNil)) (sRet (bin fPlus (dSl false (dVar 1) (oSome (dVar 3)) (oNone)) (dSl false (dVar 1) (oNone) (oSome (dVar 3)))))))))))))
noncomputable def F_law_odd : FD := fnF 2 (sSeq (sSet 1 (dLst false (aCons (dC (.str (PySem.Str.ofString ""))) (aCons (dC (.str (PySem.Str.ofString "["))) (aCons (dC (.str (PySem.Str.ofString "[]"))) (aCons (dC (.str (PySem.Str.ofString "[,]"))) (aCons (dC (.str (PySem.Str.ofString "[,)"))) (aCons (dC (.str (PySem.Str.ofString "(,)"))) (aCons (dC (.str (PySem.Str.ofString "[2]"))) (aCons (dC (.str (PySem.Str.ofString "2,5"))) (aCons (dC (.str (PySem.Str.ofString "[2,]"))) (aCons (dC (.str (PySem.Str.ofString "(2,]"))) (aCons (dC (.str (PySem.Str.ofString "[2,2)"))) (aCons (dC (.str (PySem.Str.ofString "(2,2]"))) (aCons (dC (.str (PySem.Str.ofString "(2,2)"))) (aNil)))))))))))))))) (sSeq (sSet 1 (bin fPlus (dVar 1) (dLst false (aCons (dC (.str (PySem.Str.ofString "[5,2]"))) (aCons (dC (.str (PySem.Str.ofString "[02,5]"))) (aCons (dC (.str (PySem.Str.ofString "[2,05)"))) (aCons (dC (.str (PySem.Str.ofString "[00,5)"))) (aCons (dC (.str (PySem.Str.ofString "[2, 5)"))) (aCons (dC (.str (PySem.Str.ofString " [2,5)"))) (aCons (dC (.str (PySem.Str.ofString "[2,5) "))) (aCons (dC (.str (PySem.Str.ofString "[2,5)\n"))) (aCons (dC (.str (PySem.Str.ofString "[-1,5)"))) (aNil))))))))))))) (sSeq (sSet 1 (bin fPlus (dVar 1) (dLst false (aCons (dC (.str (PySem.Str.ofString "[+1,5)"))) (aCons (dC (.str (PySem.Str.ofString "[2;5)"))) (aCons (dC (.str (PySem.Str.ofString "[2,5,7)"))) (aCons (dC (.str (PySem.Str.ofString "{2,5}"))) (aCons (dC (.str (PySem.Str.ofString "]2,5["))) (aCons (dC (.str (PySem.Str.ofString "[1/2,5)"))) (aCons (dC (.str (PySem.Str.ofString "[2,None)"))) (aCons (dC (.str (PySem.Str.ofString "[2,5))"))) (aNil)))))))))))) (sRet (dCall (arity 2 F_law_pick) [] (aCons (dVar 0) (aCons (dVar 1) (aNil))))))))
noncomputable def F_law_long : FD := fnF 4 (sSeq (sSet 2 (dCB fStr (aCons (bin fPlus (dC (.int 1)) (dCall (arity 2 F_law_draw) [] (aCons (dVar 0) (aCons (dC (.int 9)) (aNil))))) (aNil)))) (sSeq (sFor (iRng1 (aCons (bin fSub (dVar 1) (dC (.int 1))) (aNil))) (gN 3) (sSet 2 (bin fPlus (dVar 2) (dCB fStr (aCons (dCall (arity 2 F_law_draw) [] (aCons (dVar 0) (aCons (dC (.int 10)) (aNil)))) (aNil)))))) (sRet (dVar 2))))
noncomputable def F_law_wide_text : FD := fnF 4 (sSeq (sSet 1 (dCall (arity 2 F_law_long) [] (aCons (dVar 0) (aCons (bin fPlus (dC (.int 1)) (dCall (arity 2 F_law_draw) [] (aCons (dVar 0) (aCons (dC (.int 11)) (aNil))))) (aNil))))) (sSeq (sSet 2 (dVar 1)) (sSeq (sSet 3 (dCall (arity 2 F_law_draw) [] (aCons (dVar 0) (aCons (dC (.int 4)) (aNil))))) (sSeq (sIf (tB' (bin (fEq false) (dVar 3) (dC (.int 0)))) (sSet 2 (dC (.str (PySem.Str.ofString "")))) (sNil)) (sSeq (sIf (tB' (bin (fEq false) (dVar 3) (dC (.int 1)))) (sSet 2 (dCB fStr (aCons (bin fSub (bin fPlus (dCB fIntT (aCons (dVar 1) (aNil))) (dCall (arity 2 F_law_draw) [] (aCons (dVar 0) (aCons (dC (.int 3)) (aNil))))) (dC (.int 1))) (aNil)))) (sNil)) (sSeq (sIf (tB' (bin (fEq false) (dVar 3) (dC (.int 2)))) (sSet 2 (dCall (arity 2 F_law_long) [] (aCons (dVar 0) (aCons (bin fPlus (dC (.int 1)) (dCall (arity 2 F_law_draw) [] (aCons (dVar 0) (aCons (dC (.int 11)) (aNil))))) (aNil))))) (sNil)) (sSeq (sIf (tB' (bin (fEq false) (dCall (arity 2 F_law_draw) [] (aCons (dVar 0) (aCons (dC (.int 6)) (aNil)))) (dC (.int 0)))) (sSet 2 (dCall (arity 2 F_law_pick) [] (aCons (dVar 0) (aCons (dLst false (aCons (dC (.str (PySem.Str.ofString "0"))) (aCons (dC (.str (PySem.Str.ofString "00"))) (aCons (dC (.str (PySem.Str.ofString "07"))) (aCons (dC (.str (PySem.Str.ofString "-1"))) (aCons (dC (.str (PySem.Str.ofString " 9"))) (aCons (dC (.str (PySem.Str.ofString "9 "))) (aCons (dC (.str (PySem.Str.ofString "1e5"))) (aCons (dC (.str (PySem.Str.ofString "999999999"))) (aNil)))))))))) (aNil))))) (sNil)) (sRet (bin fPlus (bin fPlus (bin fPlus (bin fPlus (dCall (arity 2 F_law_pick) [] (aCons (dVar 0) (aCons (dLst false (aCons (dC (.str (PySem.Str.ofString "["))) (aCons (dC (.str (PySem.Str.ofString "("))) (aNil)))) (aNil)))) (dVar 1)) (dC (.str (PySem.Str.ofString ",")))) (dVar 2)) (dCall (arity 2 F_law_pick) [] (aCons (dVar 0) (aCons (dLst false (aCons (dC (.str (PySem.Str.ofString "]"))) (aCons (dC (.str (PySem.Str.ofString ")"))) (aNil)))) (aNil)))))))))))))
noncomputable def F_law_string : FD := fnF 5 (sSeq (sSet 2 (dCall (arity 2 F_law_draw) [] (aCons (dVar 0) (aCons (dC (.int 8)) (aNil))))) (sSeq (sIf (tB' (bin fLt (dVar 2) (dC (.int 3)))) (sSeq (sFor (iRng1 (aCons (dVar 2) (aNil))) (gN 3) (sSet 1 (dCall (arity 2 F_law_bent) [] (aCons (dVar 0) (aCons (dVar 1) (aNil)))))) (sRet (dVar 1))) (sNil)) (sSeq (sIf (tB' (bin fLt (dVar 2) (dC (.int 6)))) (sRet (dCall (arity 1 F_law_wide_text) [] (aCons (dVar 0) (aNil)))) (sNil)) (sSeq (sIf (tB' (bin (fEq false) (dVar 2) (dC (.int 6)))) (sSeq (sIf (tB' (bin (fEq false) (dCall (arity 2 F_law_draw) [] (aCons (dVar 0) (aCons (dC (.int 8)) (aNil)))) (dC (.int 0)))) (sRet (bin fPlus (bin fPlus (dCall (arity 2 F_law_pick) [] (aCons (dVar 0) (aCons (dLst false (aCons (dC (.str (PySem.Str.ofString "[7,"))) (aCons (dC (.str (PySem.Str.ofString "["))) (aCons (dC (.str (PySem.Str.ofString "(1,2"))) (aNil))))) (aNil)))) (bin fMulS (dC (.str (PySem.Str.ofString "9"))) (dC (.int 5000)))) (dC (.str (PySem.Str.ofString ")"))))) (sNil)) (sRet (dCall (arity 1 F_law_odd) [] (aCons (dVar 0) (aNil))))) (sNil)) (sSeq (sSet 4 (dC (.str (PySem.Str.ofString "")))) (sSeq (sFor (iRng1 (aCons (dCall (arity 2 F_law_draw) [] (aCons (dVar 0) (aCons (dC (.int 9)) (aNil)))) (aNil))) (gN 3) (sSet 4 (bin fPlus (dVar 4) (dCall (arity 2 F_law_pick) [] (aCons (dVar 0) (aCons (dC (.str (PySem.Str.ofString "[(0012,,3)]"))) (aNil))))))) (sRet (dVar 4))))))))
noncomputable def F_law_told : FD := fnF 3 (sTry "InvalidSpan" 1 (sRet (dTup (aCons (dC (.bl true)) (aCons (dCall (arity 1 Fread_span) [] (aCons (dVar 0) (aNil))) (aNil))))) (fun a dd => sSeq (sSet 2 (dAnd (dXis a dd true (dVar 1)) (dXis a dd true (dVar 1)))) (sSeq (sSet 2 (dAnd (dVar 2) (dAnd (dNot (dXis a dd false (dVar 1))) (dNot (dXis a dd false (dVar 1)))))) (sRet (dTup (aCons (dC (.bl false)) (aCons (dTup (aCons (dXf a dd (PySem.Str.ofString "value") (dVar 1)) (aCons (dVar 2) (aNil)))) (aNil))))))))
noncomputable def Flaw : FD := fnF 10 (sSeq (sSet 1 (dCall (arity 1 F_law_box) [] (aCons (dVar 0) (aNil)))) (sSeq (sSet 2 (dCall (arity 1 F_law_span) [] (aCons (dVar 1) (aNil)))) (sSeq (sSet 3 (dCall (arity 1 F_law_text) [] (aCons (dVar 2) (aNil)))) (sSeq (sIf (tOr' (tNot' (tB' (dCall (arity 2 (F_law_same 6)) [] (aCons (dCall (arity 1 Fspan_text) [] (aCons (dVar 2) (aNil))) (aCons (dVar 3) (aNil)))))) (tNot' (tB' (dCall (arity 2 (F_law_same 6)) [] (aCons (dCall (arity 1 F_law_told) [] (aCons (dVar 3) (aNil))) (aCons (dTup (aCons (dC (.bl true)) (aCons (dVar 2) (aNil)))) (aNil))))))) (sRet (dC (.bl false))) (sNil)) (sSeq (sFor (iRng1 (aCons (dC (.int 2)) (aNil))) (gN 4) (sSeq (sSet 5 (dCall (arity 2 F_law_string) [] (aCons (dVar 1) (aCons (dVar 3) (aNil))))) (sSeq (sSet 6 (dCall (arity 1 F_law_meant) [] (aCons (dVar 5) (aNil)))) (sSeq (sSet 7 (dTup (aCons (dC (.bl false)) (aCons (dTup (aCons (dVar 5) (aCons (dC (.bl true)) (aNil)))) (aNil))))) (sSeq (sIf (tB' (dNotN (dVar 6))) (sSet 7 (dTup (aCons (dC (.bl true)) (aCons (dVar 6) (aNil))))) (sNil)) (sSeq (sFor (iRng1 (aCons (dC (.int 2)) (aNil))) (gN 8) (sIf (tNot' (tB' (dCall (arity 2 (F_law_same 6)) [] (aCons (dCall (arity 1 F_law_told) [] (aCons (dVar 5) (aNil))) (aCons (dVar 7) (aNil)))))) (sRet (dC (.bl false))) (sNil))) (sSeq (sSet 9 (dAnd (dNotN (dVar 6)) (bin fLt (bin fIx (bin fIx (dVar 6) (dC (.int 0))) (dC (.int 0))) (dC (.int 100))))) (sIf (tAnd' (tB' (dVar 9)) (tOr' (tB' (dIsN (bin fIx (dVar 6) (dC (.int 1))))) (tB' (bin fLt (bin fIx (bin fIx (dVar 6) (dC (.int 1))) (dC (.int 0))) (dC (.int 100)))))) (sIf (tNot' (tB' (dCall (arity 2 (F_law_same 6)) [] (aCons (dCall (arity 1 Fspan_text) [] (aCons (dVar 6) (aNil))) (aCons (dVar 5) (aNil)))))) (sRet (dC (.bl false))) (sNil)) (sNil))))))))) (sRet (dCall (arity 2 (F_law_same 6)) [] (aCons (dCall (arity 1 F_law_told) [] (aCons (dVar 3) (aNil))) (aCons (dTup (aCons (dC (.bl true)) (aCons (dVar 2) (aNil)))) (aNil))))))))))
end K05
end

section
set_option Elab.async false
set_option linter.all false
set_option maxRecDepth 100000
set_option maxHeartbeats 1000000
open Z
local macro_rules | `(tactic| walk_at "z") => `(tactic| simp [fnF_eq, sSeq, sSet, sRet, sIf, sDrop, sNil, sAsg, sPar, sPut, F.then_nx, F.then_rt, F.then_bk, F.then_ct, F.then_ex, F.then_bad, F.then_ite, R.lift_ok, R.lift_ex, R.lift_bad, R.lift_ite, R.bind_ok, R.bind_ex, R.bind_bad, R.bind_ite, F.fin_nx, F.fin_rt, F.fin_ex, F.fin_bad, F.fin_ite, dVar, dC, bin, un, dAnd, dOr, dNot, tB', tAnd', tOr', tNot', dIf, asB_bl, aNil, aCons, dTup, mkT, dLst, mkL, fIx, seqOf, lstOf, L2.atI, L2.ixN, fAdd, fPlus, dSl, oSome, oNone, asI, fSl, fInT, fStr, fIntT, fFmt, dFmt, dJs, fPart, fStarts, fFind, fIsdig, fIsasc, fMulS, fSub, fMul, fLt, fGt, fLe, fGe, fEq, fDiv, fMod, fNeg, fPow, arity, dCall, dCallY, dCallK, noEx, dCB, fGcd, fLen, fMax2, fMin2, fInt, gN, gT, gAll, dIsi, fIsi, isTy, refOk, dIsN, dNotN, dIsB, dNotB, isNon, isBl, sz_lt, sz_le, sRaise, sTry, collapse_const, endX, dXf, dXis, dBM, dBM0, fPop, fApp, fRevM, tyD, *])
local macro_rules | `(tactic| walk_at "y") => `(tactic| simp [fnF_eq, sSeq, sSet, sRet, sIf, sDrop, sNil, sAsg, sPar, sPut, F.then_nx, F.then_rt, F.then_bk, F.then_ct, F.then_ex, F.then_bad, F.then_ite, R.lift_ok, R.lift_ex, R.lift_bad, R.lift_ite, R.bind_ok, R.bind_ex, R.bind_bad, R.bind_ite, F.fin_nx, F.fin_rt, F.fin_ex, F.fin_bad, F.fin_ite, dVar, dC, bin, un, dAnd, dOr, dNot, tB', tAnd', tOr', tNot', dIf, asB_bl, aNil, aCons, dTup, mkT, dLst, mkL, fIx, seqOf, lstOf, L2.atI, L2.ixN, fAdd, fPlus, dSl, oSome, oNone, asI, fSl, fInT, fStr, fIntT, fFmt, dFmt, dJs, fPart, fStarts, fFind, fIsdig, fIsasc, fMulS, fSub, fMul, fLt, fGt, fLe, fGe, fEq, fDiv, fMod, fNeg, fPow, arity, dCall, dCallY, dCallK, noEx, dCB, fGcd, fLen, fMax2, fMin2, fInt, sFor, iRng1, fRng1, iSeq, asSeq, iAny, asAny, dIsi, fIsi, isTy, refOk, dIsN, dNotN, dIsB, dNotB, isNon, isBl, sz_lt, sz_le, sRaise, sTry, collapse_const, endX, dXf, dXis, dBM, dBM0, fPop, fApp, fRevM, tyD, *])
namespace K05
abbrev mo (p q : Int) : D := .tup [.int p, .int q]
def g (a b : Int) : Int := ((Nat.gcd a.natAbs b.natAbs : Nat) : Int)
abbrev low (a b : Int) : D := mo (a / g a b) (b / g a b)
theorem g_pos {a b : Int} (h : 0 < b) : 0 < g a b := by
  have : 0 < Nat.gcd a.natAbs b.natAbs := Nat.gcd_pos_of_pos_right _ (by omega)
  unfold g; omega
theorem g_le {a b : Int} (h : 0 < b) : g a b ≤ b := by
  have : Nat.gcd a.natAbs b.natAbs ≤ b.natAbs := Nat.le_of_dvd (by omega) (Nat.gcd_dvd_right _ _)
  unfold g; omega
theorem g_ok {a b : Int} (h : 0 < b) (k : sm 9000 b) : DivOk (g a b) := (k.le (Int.le_of_lt (g_pos h)) (g_le h)).div (g_pos h) (Nat.le_refl _)
theorem same_eq : ∀ (n : Nat) (d : D) (S : Sto), flatD' n d = true → F_law_same (n + 1) [d, d] S = .ok (.bl true) S := by
  intro n
  induction n with
  | zero =>
    intro d S h
    cases d with
    | bl b => cases b <;> (rw [F_law_same]; walk_at "z")
    | non => rw [F_law_same]; walk_at "z"
    | int i => rw [F_law_same]; walk_at "z"
    | str i => rw [F_law_same]; walk_at "z"
    | _ => cases h
  | succ n ih =>
    intro d S h
    cases d with
    | bl b => cases b <;> (rw [F_law_same]; walk_at "z")
    | non => rw [F_law_same]; walk_at "z"
    | int i => rw [F_law_same]; walk_at "z"
    | str i => rw [F_law_same]; walk_at "z"
    | tup xs =>
      rw [flatD', Bool.and_eq_true, decide_eq_true_eq, List.all_eq_true] at h
      obtain ⟨hl, hx⟩ := h
      rw [F_law_same]
      have hr := fRng1_eq (i := (xs.length : Int)) (n := xs.length) (S := S) rfl hl
      have key : lcGo (fun _ => True) (gN 2) tYesD (dCall (arity 2 (F_law_same (n + 1))) [] (aCons (bin fIx (dVar 0) (dVar 2)) (aCons (bin fIx (dVar 1) (dVar 2)) aNil))) (wipeE [some (.tup xs), some (.tup xs), none] [2]) (rngD 0 xs.length) [] S = .ok ([] ++ (rngD 0 xs.length).map fun _ => .bl true) S := by
        refine lcGo_map trivial (fun _ => .bl true) _ _ (by rw [rngD_len, List.length_nil, Nat.zero_add]; exact hl) fun x hx' => ?_
        obtain ⟨i, hi, rfl⟩ := mem_rngD hx'
        refine ⟨_, rfl, rfl, ?_⟩
        have q := ih xs[i] S (hx _ (List.getElem_mem hi))
        have e1 : (0 : Int) ≤ (i : Int) := by omega
        have e2 : (i : Int) < (xs.length : Int) := by omega
        simp [wipeE, gN, dCall, aCons, aNil, bin, dVar, fIx, seqOf, L2.atI, L2.ixN, R.bind_ok, arity, e1, e2, hi, q]
      have hm : (rngD 0 xs.length).map (fun _ => D.bl true) = List.replicate xs.length (.bl true) := by
        rw [List.map_const', rngD_len]
      simp only [List.nil_append, hm] at key
      have hb2 := bools_rep xs.length
      simp [fnF_eq, sSeq, sSet, sRet, sIf, sNil, F.then_nx, F.then_rt, R.lift_ok, R.bind_ok, F.fin_rt, dVar, dC, dIsN, dIsB, isNon, isBl, tB', asB_bl, dIsi, fIsi, refOk, isTy, tOr', tNot', bin, dCB, aCons, aNil, fLen, seqOf, fEq, dLc, iRng1, hr, key, lcEnd, fAll, lstOf, hb2]
    | _ => cases h

theorem g_scale {k a b : Int} (hk : 0 < k) : g (k * a) (k * b) = k * g a b := by
  unfold g
  rw [Int.natAbs_mul, Int.natAbs_mul, Nat.gcd_mul_left, Int.natCast_mul]
  congr 1
  omega
theorem low_scale {k a b : Int} (hk : 0 < k) : low (k * a) (k * b) = low a b := by
  unfold low
  rw [g_scale hk, Int.mul_ediv_mul_of_pos _ _ hk, Int.mul_ediv_mul_of_pos _ _ hk]
theorem g_dvd_l {a b : Int} : g a b ∣ a := by
  unfold g
  have h := Nat.gcd_dvd_left a.natAbs b.natAbs
  exact Int.ofNat_dvd_left.mpr h
theorem g_dvd_r {a b : Int} : g a b ∣ b := by
  unfold g
  have h := Nat.gcd_dvd_right a.natAbs b.natAbs
  exact Int.ofNat_dvd_left.mpr h
theorem g_one {a b : Int} (hb : 0 < b) : g (a / g a b) (b / g a b) = 1 := by
  have hg := g_pos (a := a) hb
  have e : g (g a b * (a / g a b)) (g a b * (b / g a b)) = g a b * g (a / g a b) (b / g a b) := g_scale hg
  rw [Int.mul_ediv_cancel' g_dvd_l, Int.mul_ediv_cancel' g_dvd_r] at e
  have e2 : g a b * 1 = g a b * g (a / g a b) (b / g a b) := by omega
  exact (Int.eq_of_mul_eq_mul_left (by omega) e2).symm
theorem low_one {a b : Int} (h : g a b = 1) : low a b = mo a b := by
  unfold low; rw [h, Int.ediv_one, Int.ediv_one]
/-- a moment in lowest terms, its numbers below 2 ^ k -/
structure IsM (k : Nat) (p q : Int) : Prop where
  p0 : 0 ≤ p
  q0 : 0 < q
  one : g p q = 1
  ps : sm k p
  qs : sm k q
theorem IsM.mono {k j : Nat} {p q : Int} (h : IsM k p q) (hj : k ≤ j) : IsM j p q := ⟨h.p0, h.q0, h.one, h.ps.mono hj, h.qs.mono hj⟩
theorem isM_low {k : Nat} {a b : Int} (ha : 0 ≤ a) (hb : 0 < b) (sa : sm k a) (sb : sm k b) : IsM k (a / g a b) (b / g a b) := by
  have hg := g_pos (a := a) hb
  have h1 : 0 ≤ a / g a b := Int.ediv_nonneg ha (Int.le_of_lt hg)
  have h2 : 0 < b / g a b := by
    rcases Int.lt_or_le 0 (b / g a b) with h | h
    · exact h
    · have e := Int.mul_ediv_cancel' (g_dvd_r (a := a) (b := b))
      have := Int.mul_nonpos_of_nonneg_of_nonpos (Int.le_of_lt hg) h
      omega
  have l : ∀ x : Int, 0 ≤ x → x / g a b ≤ x := fun x hx => Int.ediv_le_self _ hx
  exact ⟨h1, h2, g_one hb, sa.le h1 (l a ha), sb.le (Int.le_of_lt h2) (l b (Int.le_of_lt hb))⟩
abbrev moD (m : Int × Int) : D := mo m.1 m.2
theorem isM_0 : IsM 1 0 1 := ⟨by decide, by decide, by unfold g; decide, by unfold sm; decide, by unfold sm; decide⟩
def Bx (gs : List Int) (x st c : Int) (rest : Sto) : Sto := .lst (gs.map D.int) :: .lst [.int x, .ref 0, .int st, .int c] :: rest
def IsBox (S rest : Sto) : Prop := ∃ gs x st c, S = Bx gs x st c rest
theorem pyA_ints : ∀ gs : List Int, pyA (gs.map D.int) = some (gs.map PySem.PyData.int)
  | [] => by rw [List.map_nil, pyA]; rfl
  | i :: gs => by rw [List.map_cons, pyA, pyD, pyA_ints gs]; rfl
theorem shaped_ints (gs : List Int) : PySem.SeqAt.shaped (.list (gs.map PySem.PyData.int)) = true := by
  have h1 : ∀ gs : List Int, PySem.PyData.canLayAll0 (gs.map PySem.PyData.int) = true := fun gs => by
    induction gs with
    | nil => simp [PySem.PyData.canLayAll0]
    | cons i gs ih => simp [PySem.PyData.canLayAll0, PySem.PyData.canLay0, ih]
  have h2 : ∀ gs : List Int, PySem.PyData.depthAll (gs.map PySem.PyData.int) ≤ 1 := fun gs => by
    induction gs with
    | nil => simp [PySem.PyData.depthAll]
    | cons i gs ih => simp [PySem.PyData.depthAll, PySem.PyData.depth]; omega
  have h3 := h2 gs
  unfold PySem.SeqAt.shaped
  simp [PySem.PyData.canLay0, PySem.PyData.depth, h1]
  omega
theorem ne_nil {gs : List Int} {S : Sto} (h : S[0]? = some (.lst (gs.map D.int))) : eqN true (.ref 0) (.lst []) S = .ok (.bl (!gs.isEmpty)) S := by
  have e1 : pyS S (.ref 0) = some (.list (gs.map PySem.PyData.int)) := by
    simp only [pyS, h, pyA_ints]; rfl
  have e2 : pyS S (.lst []) = some (.list []) := by simp only [pyS]; rw [pyD, pyA]; rfl
  have s1 := shaped_ints gs
  have s2 : PySem.SeqAt.shaped (.list []) = true := shaped_ints []
  unfold eqN
  rw [e1, e2]
  simp only [s1, s2, and_self, if_true]
  cases gs <;> simp [PySem.PyData.eqv, PySem.PyData.eqvAll]
theorem mulc {j : Int} (h : -(2 ^ 64) < j ∧ j < 2 ^ 64) (i : Int) : MulOk i j := .inl (.inr h)
theorem ne_nil' {gs : List Int} {xs : List D} {c rest} {b : Bool} (hx : xs = gs.map D.int) (hb : b = !gs.isEmpty) : eqN true (.ref 0) (.lst []) (Cell.lst xs :: c :: rest) = .ok (.bl b) (Cell.lst xs :: c :: rest) := by
  subst hx hb
  exact ne_nil rfl
theorem pop_last (gi : List Int) (z : Int) : ((gi ++ [z]).map D.int).dropLast = gi.map D.int := by simp
theorem draw_eq {n : Int} {S rest : Sto} (hS : IsBox S rest) (h0 : 0 < n) (h1 : n < 2 ^ 60) : ∃ d S', F_law_draw [.ref 1, .int n] S = .ok (.int d) S' ∧ IsBox S' rest ∧ 0 ≤ d ∧ d < n := by
  obtain ⟨gs, x, st, c, rfl⟩ := hS
  have m1 := mulc (j := 48271) (by decide)
  have m2 := mulc (j := 69621) (by decide)
  have m3 := mulc (j := 39373) (by decide)
  have m4 := mulc (j := 40692) (by decide)
  have dn : DivOk n := sm.div (a := 60) (by unfold sm; omega) h0 (by decide)
  have d32 : DivOk 32 := sm.div (a := 60) (by unfold sm; decide) (by decide) (by decide)
  have hm : ∀ y : Int, 0 ≤ y % n ∧ y % n < n := fun y => ⟨Int.emod_nonneg _ (by omega), Int.emod_lt_of_pos _ h0⟩
  by_cases hx : x < 1
  · have hx0 : ¬ 0 < x := by omega
    rcases List.eq_nil_or_concat gs with rfl | ⟨gi, z, rfl⟩ <;> (try rw [List.concat_eq_append])
    · have hn := fun c rest => ne_nil' (gs := []) (xs := []) (c := c) (rest := rest) (b := false) rfl rfl
      unfold Bx
      have K : F_law_draw [.ref 1, .int n] (.lst (([] : List Int).map D.int) :: .lst [.int x, .ref 0, .int st, .int c] :: rest) = .ok (.int ((((st * 48271 + (c + 1) * 69621 + 5) % 2147483647) * 39373 + (c + 1) * 40692 + 3) % 2147483399 / 32 % n)) (Bx [] x ((st * 48271 + (c + 1) * 69621 + 5) % 2147483647) (c + 1) rest) := by
        unfold F_law_draw Bx
        walk_at "z"
      exact ⟨_, _, K, ⟨[], x, _, _, rfl⟩, (hm _).1, (hm _).2⟩
    · have hn := fun c rest => ne_nil' (gs := gi ++ [z]) (xs := gi.map D.int ++ [.int z]) (c := c) (rest := rest) (b := true) (by simp) (by simp)
      unfold Bx
      by_cases hz : 0 < z
      · have K : F_law_draw [.ref 1, .int n] (.lst ((gi ++ [z]).map D.int) :: .lst [.int x, .ref 0, .int st, .int c] :: rest) = .ok (.int (z % n)) (Bx gi (z / n) st c rest) := by
          unfold F_law_draw Bx
          walk_at "z"
        exact ⟨_, _, K, ⟨gi, _, _, _, rfl⟩, (hm _).1, (hm _).2⟩
      · have K : F_law_draw [.ref 1, .int n] (.lst ((gi ++ [z]).map D.int) :: .lst [.int x, .ref 0, .int st, .int c] :: rest) = .ok (.int ((((st * 48271 + (c + 1) * 69621 + 5) % 2147483647) * 39373 + (c + 1) * 40692 + 3) % 2147483399 / 32 % n)) (Bx gi z ((st * 48271 + (c + 1) * 69621 + 5) % 2147483647) (c + 1) rest) := by
          unfold F_law_draw Bx
          walk_at "z"
        exact ⟨_, _, K, ⟨gi, _, _, _, rfl⟩, (hm _).1, (hm _).2⟩
  · have hx0 : 0 < x := by omega
    unfold Bx
    have K : F_law_draw [.ref 1, .int n] (.lst (gs.map D.int) :: .lst [.int x, .ref 0, .int st, .int c] :: rest) = .ok (.int (x % n)) (Bx gs (x / n) st c rest) := by
      unfold F_law_draw Bx
      walk_at "z"
    exact ⟨_, _, K, ⟨gs, _, _, _, rfl⟩, (hm _).1, (hm _).2⟩

theorem c6 : L2.CPow 10 6 := by unfold L2.CPow; decide
theorem c5 : L2.CPow 10 5 := by unfold L2.CPow; decide
theorem c10 : L2.CPow 10 10 := by unfold L2.CPow; decide
theorem c18 : L2.CPow 10 18 := by unfold L2.CPow; decide
theorem sm40 {i : Int} (h0 : 0 ≤ i) (h : i < 1099511627776) : sm 40 i := by unfold sm; omega
theorem same_b (b : Bool) (S : Sto) : F_law_same 6 [.bl b, .bl b] S = .ok (.bl true) S := same_eq 5 (.bl b) S rfl
theorem same_i (i : Int) (S : Sto) : F_law_same 6 [.int i, .int i] S = .ok (.bl true) S := same_eq 5 (.int i) S rfl
theorem same_m (a b : Int) (S : Sto) : F_law_same 6 [mo a b, mo a b] S = .ok (.bl true) S := same_eq 5 (mo a b) S rfl
theorem g_comm {a b : Int} : g a b = g b a := by unfold g; rw [Nat.gcd_comm]
theorem cutD_map {α β : Type} (f : α → β) (xs : List α) (l h : Option Int) : cutD (xs.map f) l h = (cutD xs l h).map f := by
  unfold cutD
  rw [List.length_map, List.map_take, List.map_drop]
theorem cut_mem {α : Type} {xs : List α} {l h : Option Int} {x : α} (hx : x ∈ cutD xs l h) : x ∈ xs := by
  unfold cutD at hx
  exact List.mem_of_mem_drop (List.mem_of_mem_take hx)
noncomputable def bB : SDen := sIf (tB' (bin fGe (dVar 3) (bin fPow (dC (.int 10)) (dC (.int 18))))) (sDrop (dBM .list fApp (dVar 1) (aCons (dVar 3) (aNil)))) (sSet 2 (bin fMod (dCB fIntT (aCons (bin fPlus (bin fPlus (bin fMul (dVar 2) (dC (.int 48271))) (bin fMul (dVar 3) (dC (.int 69621)))) (dC (.int 7))) (aNil))) (dC (.int 2147483647))))
theorem box_go {ds : D} : ∀ (zs gs : List Int) (st : Int) (x : Option D), gs.length + zs.length ≤ 1000 →
    ∃ (gs' : List Int) (st' : Int) (x' : Option D), forGo (fun _ => True) (gN 3) bB (zs.map D.int) [some ds, some (.ref 0), some (.int st), x] [.lst (gs.map D.int)] = .nx [some ds, some (.ref 0), some (.int st'), x'] [.lst (gs'.map D.int)]
  | [], gs, st, x, _ => ⟨gs, st, x, forGo_nil trivial⟩
  | z :: zs, gs, st, x, hl => by
    simp only [List.length_cons] at hl
    have h18 := c18
    have m1 := mulc (j := 48271) (by decide)
    have m2 := mulc (j := 69621) (by decide)
    have eg : (gN 3).run (.int z) [some ds, some (.ref 0), some (.int st), x] = some [some ds, some (.ref 0), some (.int st), some (.int z)] := rfl
    by_cases hz : z < 1000000000000000000
    · have eb : bB [some ds, some (.ref 0), some (.int st), some (.int z)] [.lst (gs.map D.int)] = .nx [some ds, some (.ref 0), some (.int ((st * 48271 + z * 69621 + 7) % 2147483647)), some (.int z)] [.lst (gs.map D.int)] := by
        have hz2 : ¬ 1000000000000000000 ≤ z := by omega
        unfold bB
        walk_at "z"
      obtain ⟨gs', st', x', ih⟩ := box_go (ds := ds) zs gs ((st * 48271 + z * 69621 + 7) % 2147483647) (some (.int z)) (by omega)
      refine ⟨gs', st', x', ?_⟩
      rw [List.map_cons, forGo, if_pos trivial, eg]
      simp only [eb]
      exact ih
    · have eb : bB [some ds, some (.ref 0), some (.int st), some (.int z)] [.lst (gs.map D.int)] = .nx [some ds, some (.ref 0), some (.int st), some (.int z)] [.lst ((gs ++ [z]).map D.int)] := by
        have hz2 : 1000000000000000000 ≤ z := by omega
        have hf : FitS gs.length := of_eq_true (sz_lt (by omega))
        unfold bB
        walk_at "z"
      obtain ⟨gs', st', x', ih⟩ := box_go (ds := ds) zs (gs ++ [z]) st (some (.int z)) (by simp only [List.length_append, List.length_cons, List.length_nil]; omega)
      refine ⟨gs', st', x', ?_⟩
      rw [List.map_cons, forGo, if_pos trivial, eg]
      simp only [eb]
      exact ih
theorem box_eq (ns : List Int) (hl : ns.length ≤ 63) : ∃ S', F_law_box [.frz (ns.map D.int)] [] = .ok (.ref 1) S' ∧ IsBox S' [] := by
  have hc : (cutD ns none (some 63)).length ≤ ns.length := cutD_len ns none (some 63)
  obtain ⟨gs, st, x', h⟩ := box_go (ds := .frz (ns.map D.int)) (cutD ns none (some 63)) [] (101 + ((cutD ns none (some 63)).length : Int)) none (by simp only [List.length_nil]; omega)
  have e : F_law_box = fnF 4 (sSeq (sSet 1 (dLst true (aNil))) (sSeq (sSet 2 (bin fPlus (dC (.int 101)) (dCB fLen (aCons (dSl false (dVar 0) (oNone) (oSome (dC (.int 63)))) (aNil))))) (sSeq (sFor (iAny (dSl false (dVar 0) (oNone) (oSome (dC (.int 63))))) (gN 3) bB) (sSeq (sDrop (dBM0 .list fRevM (dVar 1))) (sRet (dLst true (aCons (dC (.int 0)) (aCons (dVar 1) (aCons (dVar 2) (aCons (dC (.int 0)) (aNil))))))))))) := rfl
  have st1 : ∀ xs : List D, still (.lst xs) xs = fun _ => True := fun _ => rfl
  have hf : Fit (cutD ns none (some 63)).length := of_eq_true (sz_le (by omega))
  refine ⟨Bx gs.reverse 0 st 0 [], ?_, ⟨_, _, _, _, rfl⟩⟩
  rw [e]
  unfold Bx
  simp only [List.map_nil] at h
  simp [fnF_eq, sSeq, sSet, sFor, iAny, asAny, asSeq, dLst, mkL, sz_le, aCons, aNil, dC, R.bind_ok, R.lift_ok, dVar, seqOf, lstOf, st1, F.then_nx, h, sRet, F.fin_rt, dSl, oNone, oSome, asI, fSl, cutD_map, hf, bin, dCB, fLen, fAdd, fPlus, sDrop, dBM0, fRevM, tyD]

theorem pick_gen {ds : List D} {S rest : Sto} (hS : IsBox S rest) (hm : 0 < ds.length) (hl : ds.length ≤ 1000) : ∃ d S', F_law_pick [.ref 1, .lst ds] S = .ok d S' ∧ IsBox S' rest ∧ d ∈ ds := by
  obtain ⟨d1, S1, e1, b1, p1, q1⟩ := draw_eq (n := ds.length) hS (by omega) (by omega)
  have hi : d1.toNat < ds.length := by omega
  have hx : ¬ d1 < 0 := by omega
  have K : F_law_pick [.ref 1, .lst ds] S = .ok ds[d1.toNat] S1 := by
    unfold F_law_pick
    walk_at "z"
  exact ⟨_, _, K, b1, List.getElem_mem hi⟩
end K05
end

section
set_option Elab.async false
set_option linter.all false
set_option maxRecDepth 100000
set_option maxHeartbeats 1000000
open Z
local macro_rules | `(tactic| walk_at "z") => `(tactic| simp [fnF_eq, sSeq, sSet, sRet, sIf, sDrop, sNil, sAsg, sPar, sPut, F.then_nx, F.then_rt, F.then_bk, F.then_ct, F.then_ex, F.then_bad, F.then_ite, R.lift_ok, R.lift_ex, R.lift_bad, R.lift_ite, R.bind_ok, R.bind_ex, R.bind_bad, R.bind_ite, F.fin_nx, F.fin_rt, F.fin_ex, F.fin_bad, F.fin_ite, dVar, dC, bin, un, dAnd, dOr, dNot, tB', tAnd', tOr', tNot', dIf, asB_bl, aNil, aCons, dTup, mkT, dLst, mkL, fIx, seqOf, lstOf, L2.atI, L2.ixN, fAdd, fPlus, dSl, oSome, oNone, asI, fSl, fInT, fStr, fIntT, fFmt, dFmt, dJs, fPart, fStarts, fFind, fIsdig, fIsasc, fMulS, fSub, fMul, fLt, fGt, fLe, fGe, fEq, fDiv, fMod, fNeg, fPow, arity, dCall, dCallY, dCallK, noEx, dCB, fGcd, fLen, fMax2, fMin2, fInt, gN, gT, gAll, dIsi, fIsi, isTy, refOk, dIsN, dNotN, dIsB, dNotB, isNon, isBl, sz_lt, sz_le, sRaise, sTry, collapse_const, endX, dXf, dXis, dBM, dBM0, fPop, fApp, fRevM, tyD, *])
local macro_rules | `(tactic| walk_at "y") => `(tactic| simp [fnF_eq, sSeq, sSet, sRet, sIf, sDrop, sNil, sAsg, sPar, sPut, F.then_nx, F.then_rt, F.then_bk, F.then_ct, F.then_ex, F.then_bad, F.then_ite, R.lift_ok, R.lift_ex, R.lift_bad, R.lift_ite, R.bind_ok, R.bind_ex, R.bind_bad, R.bind_ite, F.fin_nx, F.fin_rt, F.fin_ex, F.fin_bad, F.fin_ite, dVar, dC, bin, un, dAnd, dOr, dNot, tB', tAnd', tOr', tNot', dIf, asB_bl, aNil, aCons, dTup, mkT, dLst, mkL, fIx, seqOf, lstOf, L2.atI, L2.ixN, fAdd, fPlus, dSl, oSome, oNone, asI, fSl, fInT, fStr, fIntT, fFmt, dFmt, dJs, fPart, fStarts, fFind, fIsdig, fIsasc, fMulS, fSub, fMul, fLt, fGt, fLe, fGe, fEq, fDiv, fMod, fNeg, fPow, arity, dCall, dCallY, dCallK, noEx, dCB, fGcd, fLen, fMax2, fMin2, fInt, sFor, iRng1, fRng1, iSeq, asSeq, iAny, asAny, dIsi, fIsi, isTy, refOk, dIsN, dNotN, dIsB, dNotB, isNon, isBl, sz_lt, sz_le, sRaise, sTry, collapse_const, endX, dXf, dXis, dBM, dBM0, fPop, fApp, fRevM, tyD, *])
namespace K05
abbrev mkS (l : List Nat) : PySem.Str := ⟨⟨l⟩⟩
abbrev st (l : List Nat) : D := .str (mkS l)
def dig (c : Nat) : Bool := decide (48 ≤ c) && decide (c ≤ 57)
def numB (l : List Nat) : Bool := !l.isEmpty && l.all dig && !(decide (1 < l.length) && decide (l.head? = some 48))
theorem mk_inj {l m : List Nat} : mkS l = mkS m ↔ l = m := by
  constructor
  · intro h; injection h with h; injection h
  · intro h; rw [h]
theorem s_empty : PySem.Str.ofString "" = mkS [] := by decide
theorem s_0 : PySem.Str.ofString "0" = mkS [48] := by decide
theorem s_1 : PySem.Str.ofString "1" = mkS [49] := by decide
theorem s_cm : PySem.Str.ofString "," = mkS [44] := by decide
theorem s_bo : PySem.Str.ofString "[" = mkS [91] := by decide
theorem s_bc : PySem.Str.ofString "]" = mkS [93] := by decide
theorem s_po : PySem.Str.ofString "(" = mkS [40] := by decide
theorem s_pc : PySem.Str.ofString ")" = mkS [41] := by decide
theorem s_9 : PySem.Str.ofString "9" = mkS [57] := by decide
theorem s_dig : PySem.Str.ofString "0123456789" = mkS [48, 49, 50, 51, 52, 53, 54, 55, 56, 57] := by decide
theorem mem_dig (c : Nat) : decide (c ∈ [48, 49, 50, 51, 52, 53, 54, 55, 56, 57]) = dig c := by
  unfold dig
  rw [← Bool.decide_and]
  apply decide_eq_decide.mpr
  simp only [List.mem_cons, List.not_mem_nil, or_false]
  omega
theorem len_mk (l : List Nat) : (mkS l).length = l.length := rfl
theorem bools_map {α : Type} (f : α → Bool) : ∀ xs : List α, boolsOf (xs.map fun x => D.bl (f x)) = some (xs.map f)
  | [] => rfl
  | x :: xs => by rw [List.map_cons, boolsOf, bools_map f xs]; rfl
def tst (x : D) : D := match x with
  | .str w => match w.cps.toList with
    | [c] => .bl (dig c)
    | _ => .non
  | _ => .non
theorem fitS {n : Nat} (h : n ≤ 1000000) : Fit n := Nat.le_trans h (by decide)
abbrev lim (l : List Nat) : Bool := numB l && decide (l.length ≤ 9)
theorem law_digits_eq (l : List Nat) (hl : l.length ≤ 1000000) (S : Sto) : F_law_digits [st l] S = .ok (.bl (lim l)) S := by
  have fl : Fit (mkS l).length := fitS (by rw [len_mk]; exact hl)
  by_cases h9 : 9 < l.length
  · have ne : ¬ mkS l = mkS [] := by rw [mk_inj]; rintro rfl; simp at h9
    have e : lim l = false := by
      have : ¬ l.length ≤ 9 := by omega
      simp [lim, this]
    have g9 : (9 : Int) < ((mkS l).length : Int) := by rw [len_mk]; omega
    rw [e]
    unfold F_law_digits
    rw [s_empty, s_0]
    simp [fnF_eq, sSeq, sSet, sRet, sIf, sNil, F.then_nx, F.then_rt, R.lift_ok, R.bind_ok, F.fin_rt, dVar, dC, bin, fEq, fGt, tB', tOr', tAnd', asB_bl, ne, dCB, aCons, aNil, fLen, seqOf, fl, g9]
  have hL : l.length ≤ 9 := by omega
  have e9 : lim l = numB l := by simp [lim, hL]
  rw [e9]
  clear e9
  cases l with
  | nil =>
    unfold F_law_digits
    rw [s_empty]
    simp [fnF_eq, sSeq, sSet, sRet, sIf, sNil, F.then_nx, F.then_rt, R.lift_ok, R.bind_ok, F.fin_rt, dVar, dC, bin, fEq, tB', tOr', asB_bl, numB]
  | cons c r =>
    have ne : ¬ mkS (c :: r) = mkS [] := by rw [mk_inj]; simp
    have hf : Fit (mkS (c :: r)).length := of_eq_true (sz_le (by rw [len_mk]; omega))
    have h0 : (mkS [c] = mkS [48]) = (c = 48) := by rw [mk_inj]; simp
    have key : lcGo (fun _ => True) (gN 1) tYesD (bin (fInT false) (dVar 1) (dC (.str (PySem.Str.ofString "0123456789")))) (wipeE [some (st (c :: r)), none] [1]) ((c :: r).map sgn) [] S = .ok ([] ++ ((c :: r).map sgn).map tst) S := by
      refine lcGo_map trivial tst _ _ (by rw [List.length_map, List.length_nil, Nat.zero_add]; omega) fun x hx => ?_
      obtain ⟨b, hb, rfl⟩ := List.mem_map.mp hx
      refine ⟨_, rfl, rfl, ?_⟩
      rw [s_dig]
      simp only [bin, wipeE, gN, dVar, dC, sgn, tst]
      rw [← mem_dig b]
      simp [R.bind_ok, fInT]
    have hm : ((c :: r).map sgn).map tst = (c :: r).map fun x => D.bl (dig x) := by
      rw [List.map_map]; rfl
    rw [hm, List.nil_append] at key
    have hb := bools_map dig (c :: r)
    unfold F_law_digits
    rw [s_empty, s_0]
    have hl1 : ((c :: r).length : Int) = (r.length : Int) + 1 := by simp
    cases r with
    | nil =>
      have f1 : Fit 1 := of_eq_true (sz_le (by decide))
      simp only [List.map_cons, List.map_nil] at key hb
      simp [fnF_eq, sSeq, sSet, sRet, sIf, sNil, F.then_nx, F.then_rt, R.lift_ok, R.bind_ok, F.fin_rt, dVar, dC, bin, fEq, fGt, tB', tOr', tAnd', asB_bl, numB, ne, hf, dCB, aCons, aNil, fLen, seqOf, dLc, iAny, asAny, key, fAll, lstOf, hb, lcEnd, len_mk, f1]
    | cons d r =>
      have f2 : Fit (r.length + 1 + 1) := of_eq_true (sz_le (by simp only [List.length_cons] at hL; omega))
      have g1 : (1 : Int) < (r.length : Int) + 1 + 1 := by omega
      have g2 : (0 : Int) < (r.length : Int) + 1 + 1 := by omega
      have g3 : ¬ (9 : Int) < (r.length : Int) + 1 + 1 := by simp only [List.length_cons] at hL; omega
      simp only [List.map_cons, List.map_nil] at key hb
      by_cases h48 : c = 48
      · simp [fnF_eq, sSeq, sSet, sRet, sIf, sNil, F.then_nx, F.then_rt, R.lift_ok, R.bind_ok, F.fin_rt, dVar, dC, bin, fEq, fGt, tB', tOr', tAnd', asB_bl, numB, ne, hf, dCB, aCons, aNil, fLen, seqOf, fIx, L2.atI, L2.ixN, len_mk, h0, h48, f2, g1, g2, g3]
      · simp [fnF_eq, sSeq, sSet, sRet, sIf, sNil, F.then_nx, F.then_rt, R.lift_ok, R.bind_ok, F.fin_rt, dVar, dC, bin, fEq, fGt, tB', tOr', tAnd', asB_bl, numB, ne, hf, dCB, aCons, aNil, fLen, seqOf, dLc, iAny, asAny, key, fAll, lstOf, hb, lcEnd, len_mk, fIx, L2.atI, L2.ixN, h0, h48, f2, g1, g2, g3]
end K05
end

section
set_option Elab.async false
set_option linter.all false
set_option maxRecDepth 100000
set_option maxHeartbeats 1000000
open Z
local macro_rules | `(tactic| walk_at "z") => `(tactic| simp [fnF_eq, sSeq, sSet, sRet, sIf, sDrop, sNil, sAsg, sPar, sPut, F.then_nx, F.then_rt, F.then_bk, F.then_ct, F.then_ex, F.then_bad, F.then_ite, R.lift_ok, R.lift_ex, R.lift_bad, R.lift_ite, R.bind_ok, R.bind_ex, R.bind_bad, R.bind_ite, F.fin_nx, F.fin_rt, F.fin_ex, F.fin_bad, F.fin_ite, dVar, dC, bin, un, dAnd, dOr, dNot, tB', tAnd', tOr', tNot', dIf, asB_bl, aNil, aCons, dTup, mkT, dLst, mkL, fIx, seqOf, lstOf, L2.atI, L2.ixN, fAdd, fPlus, dSl, oSome, oNone, asI, fSl, fInT, fStr, fIntT, fFmt, dFmt, dJs, fPart, fStarts, fFind, fIsdig, fIsasc, fMulS, fSub, fMul, fLt, fGt, fLe, fGe, fEq, fDiv, fMod, fNeg, fPow, arity, dCall, dCallY, dCallK, noEx, dCB, fGcd, fLen, fMax2, fMin2, fInt, gN, gT, gAll, dIsi, fIsi, isTy, refOk, dIsN, dNotN, dIsB, dNotB, isNon, isBl, sz_lt, sz_le, sRaise, sTry, collapse_const, endX, dXf, dXis, dBM, dBM0, fPop, fApp, fRevM, tyD, *])
local macro_rules | `(tactic| walk_at "y") => `(tactic| simp [fnF_eq, sSeq, sSet, sRet, sIf, sDrop, sNil, sAsg, sPar, sPut, F.then_nx, F.then_rt, F.then_bk, F.then_ct, F.then_ex, F.then_bad, F.then_ite, R.lift_ok, R.lift_ex, R.lift_bad, R.lift_ite, R.bind_ok, R.bind_ex, R.bind_bad, R.bind_ite, F.fin_nx, F.fin_rt, F.fin_ex, F.fin_bad, F.fin_ite, dVar, dC, bin, un, dAnd, dOr, dNot, tB', tAnd', tOr', tNot', dIf, asB_bl, aNil, aCons, dTup, mkT, dLst, mkL, fIx, seqOf, lstOf, L2.atI, L2.ixN, fAdd, fPlus, dSl, oSome, oNone, asI, fSl, fInT, fStr, fIntT, fFmt, dFmt, dJs, fPart, fStarts, fFind, fIsdig, fIsasc, fMulS, fSub, fMul, fLt, fGt, fLe, fGe, fEq, fDiv, fMod, fNeg, fPow, arity, dCall, dCallY, dCallK, noEx, dCB, fGcd, fLen, fMax2, fMin2, fInt, sFor, iRng1, fRng1, iSeq, asSeq, iAny, asAny, dIsi, fIsi, isTy, refOk, dIsN, dNotN, dIsB, dNotB, isNon, isBl, sz_lt, sz_le, sRaise, sTry, collapse_const, endX, dXf, dXis, dBM, dBM0, fPop, fApp, fRevM, tyD, *])
namespace K05
theorem asc_dig (l : List Nat) : (PySem.Txt.isascii (mkS l) && PySem.Txt.isdigit (mkS l)) = (!l.isEmpty && l.all dig) := by
  unfold PySem.Txt.isascii PySem.Txt.isdigit
  have e1 : (mkS l).cps.all (· < 128) = l.all fun c => decide (c < 128) := by simp
  have e2 : (mkS l).cps.all PySem.Unicode.isDigit = l.all PySem.Unicode.isDigit := by simp
  have e3 : decide ((mkS l).length > 0) = !l.isEmpty := by
    rw [len_mk]; cases l <;> simp
  rw [e1, e2, e3]
  have e4 : (l.all (fun c => decide (c < 128)) && l.all PySem.Unicode.isDigit) = l.all dig := by
    induction l with
    | nil => rfl
    | cons c r ih =>
      simp only [List.all_cons]
      rw [← ih (by simp) (by simp) (by cases r <;> simp [len_mk])]
      have h : ∀ c, c < 128 → PySem.Unicode.isDigit c = dig c := by decide +kernel
      by_cases hc : c < 128
      · rw [h c hc]
        simp [hc]
        cases dig c <;> simp
      · have hd : dig c = false := by unfold dig; simp; omega
        simp [hc, hd]
  rw [← e4]
  cases l.isEmpty <;> simp
theorem starts_0 (l : List Nat) : PySem.Txt.startswith (mkS l) (mkS [48]) = decide (l.head? = some 48) := by
  unfold PySem.Txt.startswith
  cases l with
  | nil => rfl
  | cons c r =>
    have e : PySem.Builtin.Str.subAt (mkS (c :: r)) (mkS [48]) 0 = decide (c = 48) := by
      unfold PySem.Builtin.Str.subAt
      have : (mkS (c :: r)).cps.extract 0 (0 + (mkS [48]).length) = #[c] := by
        apply Array.ext'
        simp [len_mk]
      rw [this]
      by_cases h : c = 48
      · subst h; rfl
      · rw [decide_eq_false h]
        simp [h]
    rw [e, len_mk, len_mk]
    simp
theorem numB_eq (l : List Nat) : numB l = ((!l.isEmpty && l.all dig) && (decide (mkS l = mkS [48]) || !PySem.Txt.startswith (mkS l) (mkS [48]))) := by
  rw [starts_0]
  unfold numB
  cases l with
  | nil => rfl
  | cons c r =>
    cases r with
    | nil => by_cases h : c = 48 <;> simp [h, mk_inj]
    | cons d r => by_cases h : c = 48 <;> simp [h, mk_inj]
theorem is_numeral_eq (l : List Nat) (S : Sto) : Fis_numeral [st l] S = .ok (.bl (numB l)) S := by
  have h1 := asc_dig l
  have h2 := numB_eq l
  rw [← h1] at h2
  unfold Fis_numeral
  rw [s_0, h2]
  have ee : (mkS l = mkS [48]) = True ∨ (mkS l = mkS [48]) = False := by
    by_cases h : mkS l = mkS [48]
    · exact .inl (eq_true h)
    · exact .inr (eq_false h)
  cases ha : PySem.Txt.isascii (mkS l) <;> cases hd : PySem.Txt.isdigit (mkS l) <;> rcases ee with he | he <;> cases hs : PySem.Txt.startswith (mkS l) (mkS [48]) <;>
    simp [fnF_eq, sSeq, sSet, sRet, sIf, sNil, F.then_nx, F.then_rt, R.lift_ok, R.bind_ok, F.fin_rt, dVar, dC, bin, fEq, tB', tNot', tAnd', asB_bl, dIsi, fIsi, isTy, refOk, dBM0, dBM, tyD, fIsasc, fIsdig, fStarts, aCons, aNil, dOr, dNot, ha, hd, he, hs]
end K05
end

section
set_option Elab.async false
set_option linter.all false
set_option maxRecDepth 100000
set_option maxHeartbeats 1000000
open Z
local macro_rules | `(tactic| walk_at "z") => `(tactic| simp [fnF_eq, sSeq, sSet, sRet, sIf, sDrop, sNil, sAsg, sPar, sPut, F.then_nx, F.then_rt, F.then_bk, F.then_ct, F.then_ex, F.then_bad, F.then_ite, R.lift_ok, R.lift_ex, R.lift_bad, R.lift_ite, R.bind_ok, R.bind_ex, R.bind_bad, R.bind_ite, F.fin_nx, F.fin_rt, F.fin_ex, F.fin_bad, F.fin_ite, dVar, dC, bin, un, dAnd, dOr, dNot, tB', tAnd', tOr', tNot', dIf, asB_bl, aNil, aCons, dTup, mkT, dLst, mkL, fIx, seqOf, lstOf, L2.atI, L2.ixN, fAdd, fPlus, dSl, oSome, oNone, asI, fSl, fInT, fStr, fIntT, fFmt, dFmt, dJs, fPart, fStarts, fFind, fIsdig, fIsasc, fMulS, fSub, fMul, fLt, fGt, fLe, fGe, fEq, fDiv, fMod, fNeg, fPow, arity, dCall, dCallY, dCallK, noEx, dCB, fGcd, fLen, fMax2, fMin2, fInt, gN, gT, gAll, dIsi, fIsi, isTy, refOk, dIsN, dNotN, dIsB, dNotB, isNon, isBl, sz_lt, sz_le, sRaise, sTry, collapse_const, endX, dXf, dXis, dBM, dBM0, fPop, fApp, fRevM, tyD, *])
local macro_rules | `(tactic| walk_at "y") => `(tactic| simp [fnF_eq, sSeq, sSet, sRet, sIf, sDrop, sNil, sAsg, sPar, sPut, F.then_nx, F.then_rt, F.then_bk, F.then_ct, F.then_ex, F.then_bad, F.then_ite, R.lift_ok, R.lift_ex, R.lift_bad, R.lift_ite, R.bind_ok, R.bind_ex, R.bind_bad, R.bind_ite, F.fin_nx, F.fin_rt, F.fin_ex, F.fin_bad, F.fin_ite, dVar, dC, bin, un, dAnd, dOr, dNot, tB', tAnd', tOr', tNot', dIf, asB_bl, aNil, aCons, dTup, mkT, dLst, mkL, fIx, seqOf, lstOf, L2.atI, L2.ixN, fAdd, fPlus, dSl, oSome, oNone, asI, fSl, fInT, fStr, fIntT, fFmt, dFmt, dJs, fPart, fStarts, fFind, fIsdig, fIsasc, fMulS, fSub, fMul, fLt, fGt, fLe, fGe, fEq, fDiv, fMod, fNeg, fPow, arity, dCall, dCallY, dCallK, noEx, dCB, fGcd, fLen, fMax2, fMin2, fInt, sFor, iRng1, fRng1, iSeq, asSeq, iAny, asAny, dIsi, fIsi, isTy, refOk, dIsN, dNotN, dIsB, dNotB, isNon, isBl, sz_lt, sz_le, sRaise, sTry, collapse_const, endX, dXf, dXis, dBM, dBM0, fPop, fApp, fRevM, tyD, *])
namespace K05
theorem tl_mkS (l : List Nat) : TL.tl (mkS l) = l := rfl
theorem app_mkS (a b : List Nat) : mkS a ++ mkS b = mkS (a ++ b) := TL.ext_tl (by rw [TL.tl_append])
theorem part_some {a b : List Nat} (h : 44 ∉ a) : PySem.Txt.partition (mkS (a ++ 44 :: b)) (mkS [44]) = (mkS a, mkS [44], mkS b) := by
  have e := TL.partition_app (y := mkS [44]) (s := 44) (S := []) rfl (a := mkS a) (b := mkS b) h
  rw [app_mkS, app_mkS] at e
  have e2 : (mkS (a ++ [44])).1.toList ++ b = a ++ 44 :: b := by simp
  rw [← e]
  exact congrArg (fun z => PySem.Txt.partition (mkS z) (mkS [44])) e2.symm
theorem part_none {l : List Nat} (h : 44 ∉ l) : PySem.Txt.partition (mkS l) (mkS [44]) = (mkS l, mkS [], mkS []) := TL.partition_none (y := mkS [44]) (s := 44) (S := []) rfl (a := mkS l) h
theorem find_none {l : List Nat} (h : 44 ∉ l) : PySem.Txt.find (mkS l) (mkS [44]) = -1 := by
  unfold PySem.Txt.find
  have f := PySem.StrLaws.found_one (mkS l) 44
  rw [decide_eq_false (by exact h)] at f
  have g : PySem.Builtin.Str.occurrences (mkS l) (mkS [44]) 0 (mkS l).length 1 = [] := by
    cases e : PySem.Builtin.Str.occurrences (mkS l) (mkS [44]) 0 (mkS l).length 1 with
    | nil => rfl
    | cons c r =>
      have e' : PySem.Builtin.Str.occurrences (mkS l) ⟨#[44]⟩ 0 (mkS l).length 1 = c :: r := e
      rw [e'] at f
      cases f
  simp only [g]
theorem find_some {a b : List Nat} (h : 44 ∉ a) : PySem.Txt.find (mkS (a ++ 44 :: b)) (mkS [44]) = a.length := by
  unfold PySem.Txt.find
  have hy : TL.tl (mkS [44]) ≠ [] := by rw [tl_mkS]; simp
  have at1 : PySem.StrLaws.At (mkS (a ++ 44 :: b)) (mkS [44]) (mkS (a ++ 44 :: b)).length a.length := by
    rw [TL.at_iff hy, tl_mkS, tl_mkS]
    have : (a ++ 44 :: b).drop a.length = [44] ++ b := by simp
    rw [this]
    exact TL.pre_self _ _
  have at0 : ∀ k, k < a.length → ¬ PySem.StrLaws.At (mkS (a ++ 44 :: b)) (mkS [44]) (mkS (a ++ 44 :: b)).length k := fun k hk hA => by
    rw [TL.at_iff hy, tl_mkS, tl_mkS, TL.free_of h k hk] at hA
    cases hA
  rcases PySem.StrLaws.occ_head (mkS (a ++ 44 :: b)) (mkS [44]) 1 (Nat.le_refl _) with ⟨_, hn⟩ | ⟨i, r, e, hi, hn⟩
  · exact absurd at1 (hn _)
  · have hia : i = a.length := by
      rcases Nat.lt_trichotomy i a.length with h1 | h1 | h1
      · exact absurd hi (at0 i h1)
      · exact h1
      · exact absurd at1 (hn _ h1)
    simp only [e, hia]
theorem split44 (l : List Nat) : 44 ∉ l ∨ ∃ a b, l = a ++ 44 :: b ∧ 44 ∉ a := by
  induction l with
  | nil => exact .inl (by simp)
  | cons c r ih =>
    by_cases hc : c = 44
    · subst hc
      exact .inr ⟨[], r, rfl, by simp⟩
    · rcases ih with h | ⟨a, b, e, h⟩
      · exact .inl (by simp only [List.mem_cons, not_or]; exact ⟨fun e => hc e.symm, h⟩)
      · exact .inr ⟨c :: a, b, by rw [e]; rfl, by simp only [List.mem_cons, not_or]; exact ⟨fun e => hc e.symm, h⟩⟩
end K05
end

section
set_option Elab.async false
set_option linter.all false
set_option maxRecDepth 100000
set_option maxHeartbeats 1000000
open Z
local macro_rules | `(tactic| walk_at "z") => `(tactic| simp [fnF_eq, sSeq, sSet, sRet, sIf, sDrop, sNil, sAsg, sPar, sPut, F.then_nx, F.then_rt, F.then_bk, F.then_ct, F.then_ex, F.then_bad, F.then_ite, R.lift_ok, R.lift_ex, R.lift_bad, R.lift_ite, R.bind_ok, R.bind_ex, R.bind_bad, R.bind_ite, F.fin_nx, F.fin_rt, F.fin_ex, F.fin_bad, F.fin_ite, dVar, dC, bin, un, dAnd, dOr, dNot, tB', tAnd', tOr', tNot', dIf, asB_bl, aNil, aCons, dTup, mkT, dLst, mkL, fIx, seqOf, lstOf, L2.atI, L2.ixN, fAdd, fPlus, dSl, oSome, oNone, asI, fSl, fInT, fStr, fIntT, fFmt, dFmt, dJs, fPart, fStarts, fFind, fIsdig, fIsasc, fMulS, fSub, fMul, fLt, fGt, fLe, fGe, fEq, fDiv, fMod, fNeg, fPow, arity, dCall, dCallY, dCallK, noEx, dCB, fGcd, fLen, fMax2, fMin2, fInt, gN, gT, gAll, dIsi, fIsi, isTy, refOk, dIsN, dNotN, dIsB, dNotB, isNon, isBl, sz_lt, sz_le, sRaise, sTry, collapse_const, endX, dXf, dXis, dBM, dBM0, fPop, fApp, fRevM, tyD, *])
local macro_rules | `(tactic| walk_at "y") => `(tactic| simp [fnF_eq, sSeq, sSet, sRet, sIf, sDrop, sNil, sAsg, sPar, sPut, F.then_nx, F.then_rt, F.then_bk, F.then_ct, F.then_ex, F.then_bad, F.then_ite, R.lift_ok, R.lift_ex, R.lift_bad, R.lift_ite, R.bind_ok, R.bind_ex, R.bind_bad, R.bind_ite, F.fin_nx, F.fin_rt, F.fin_ex, F.fin_bad, F.fin_ite, dVar, dC, bin, un, dAnd, dOr, dNot, tB', tAnd', tOr', tNot', dIf, asB_bl, aNil, aCons, dTup, mkT, dLst, mkL, fIx, seqOf, lstOf, L2.atI, L2.ixN, fAdd, fPlus, dSl, oSome, oNone, asI, fSl, fInT, fStr, fIntT, fFmt, dFmt, dJs, fPart, fStarts, fFind, fIsdig, fIsasc, fMulS, fSub, fMul, fLt, fGt, fLe, fGe, fEq, fDiv, fMod, fNeg, fPow, arity, dCall, dCallY, dCallK, noEx, dCB, fGcd, fLen, fMax2, fMin2, fInt, sFor, iRng1, fRng1, iSeq, asSeq, iAny, asAny, dIsi, fIsi, isTy, refOk, dIsN, dNotN, dIsB, dNotB, isNon, isBl, sz_lt, sz_le, sRaise, sTry, collapse_const, endX, dXf, dXis, dBM, dBM0, fPop, fApp, fRevM, tyD, *])
namespace K05
abbrev val (l : List Nat) : Nat := PySem.NumText.digitsVal l
theorem val_snoc (l : List Nat) (c : Nat) : val (l ++ [c]) = val l * 10 + (c - 48) := by
  unfold val PySem.NumText.digitsVal
  rw [List.foldl_append]; rfl
theorem dig_iff {c : Nat} : dig c = true ↔ 48 ≤ c ∧ c ≤ 57 := by unfold dig; simp
theorem numB_ne {l : List Nat} (h : numB l = true) : l ≠ [] := by rintro rfl; cases h
theorem numB_all {l : List Nat} (h : numB l = true) : PySem.NumText.AllDigits l := by
  unfold numB at h
  simp only [Bool.and_eq_true, List.all_eq_true] at h
  exact fun c hc => dig_iff.mp (h.1.2 c hc)
theorem val_lt : ∀ (k : Nat) (l : List Nat), l.length = k → PySem.NumText.AllDigits l → val l < 10 ^ k := by
  intro k
  induction k with
  | zero =>
    intro l h _
    rw [List.length_eq_zero_iff.mp h]; decide
  | succ k ih =>
    intro l h hd
    rcases List.eq_nil_or_concat l with rfl | ⟨r, c, rfl⟩
    · cases h
    · rw [List.concat_eq_append] at *
      rw [val_snoc]
      have hr : r.length = k := by simpa using h
      have h1 := ih r hr fun x hx => hd x (List.mem_append_left _ hx)
      have h2 := hd c (by simp)
      rw [Nat.pow_succ]
      omega
theorem back : ∀ (k : Nat) (l : List Nat), l.length = k → numB l = true → TL.numL (val l) = l := by
  intro k
  induction k with
  | zero =>
    intro l h hb
    exact absurd (List.length_eq_zero_iff.mp h) (numB_ne hb)
  | succ k ih =>
    intro l h hb
    rcases List.eq_nil_or_concat l with rfl | ⟨r, c, rfl⟩
    · cases h
    · rw [List.concat_eq_append] at *
      have hr : r.length = k := by simpa using h
      have hd := numB_all hb
      have h2 := hd c (by simp)
      by_cases hk : r = []
      · subst hk
        have e : val ([] ++ [c]) = c - 48 := by rw [val_snoc]; show 0 * 10 + (c - 48) = c - 48; omega
        rw [e, TL.numL_lt (by omega)]
        simp
        omega
      · have hb' : numB r = true ∧ r.head? ≠ some 48 := by
          unfold numB at hb ⊢
          cases r with
          | nil => exact absurd rfl hk
          | cons x r =>
            simp at hb ⊢
            refine ⟨⟨⟨hb.1.1, hb.1.2.1⟩, .inr hb.2⟩, hb.2⟩
        have e := ih r hr hb'.1
        have vp : 1 ≤ val r := by
          rcases Nat.eq_zero_or_pos (val r) with h0 | h0
          · rw [h0] at e
            rw [← e] at hb'
            exact absurd rfl hb'.2
          · exact h0
        rw [val_snoc, TL.numL_step (by omega)]
        have d1 : (val r * 10 + (c - 48)) / 10 = val r := by omega
        have d2 : 48 + (val r * 10 + (c - 48)) % 10 = c := by omega
        rw [d1, d2, e]
theorem int_val {l : List Nat} (h : numB l = true) (hl : l.length ≤ 4300) : PySem.intText? (mkS l) = some ((val l : Nat) : Int) := PySem.intText_digits (x := mkS l) (numB_all h) (numB_ne h) hl
end K05
end

section
set_option Elab.async false
set_option linter.all false
set_option maxRecDepth 100000
set_option maxHeartbeats 1000000
open Z
local macro_rules | `(tactic| walk_at "z") => `(tactic| simp [fnF_eq, sSeq, sSet, sRet, sIf, sDrop, sNil, sAsg, sPar, sPut, F.then_nx, F.then_rt, F.then_bk, F.then_ct, F.then_ex, F.then_bad, F.then_ite, R.lift_ok, R.lift_ex, R.lift_bad, R.lift_ite, R.bind_ok, R.bind_ex, R.bind_bad, R.bind_ite, F.fin_nx, F.fin_rt, F.fin_ex, F.fin_bad, F.fin_ite, dVar, dC, bin, un, dAnd, dOr, dNot, tB', tAnd', tOr', tNot', dIf, asB_bl, aNil, aCons, dTup, mkT, dLst, mkL, fIx, seqOf, lstOf, L2.atI, L2.ixN, fAdd, fPlus, dSl, oSome, oNone, asI, fSl, fInT, fStr, fIntT, fFmt, dFmt, dJs, fPart, fStarts, fFind, fIsdig, fIsasc, fMulS, fSub, fMul, fLt, fGt, fLe, fGe, fEq, fDiv, fMod, fNeg, fPow, arity, dCall, dCallY, dCallK, noEx, dCB, fGcd, fLen, fMax2, fMin2, fInt, gN, gT, gAll, dIsi, fIsi, isTy, refOk, dIsN, dNotN, dIsB, dNotB, isNon, isBl, sz_lt, sz_le, sRaise, sTry, collapse_const, endX, dXf, dXis, dBM, dBM0, fPop, fApp, fRevM, tyD, *])
local macro_rules | `(tactic| walk_at "y") => `(tactic| simp [fnF_eq, sSeq, sSet, sRet, sIf, sDrop, sNil, sAsg, sPar, sPut, F.then_nx, F.then_rt, F.then_bk, F.then_ct, F.then_ex, F.then_bad, F.then_ite, R.lift_ok, R.lift_ex, R.lift_bad, R.lift_ite, R.bind_ok, R.bind_ex, R.bind_bad, R.bind_ite, F.fin_nx, F.fin_rt, F.fin_ex, F.fin_bad, F.fin_ite, dVar, dC, bin, un, dAnd, dOr, dNot, tB', tAnd', tOr', tNot', dIf, asB_bl, aNil, aCons, dTup, mkT, dLst, mkL, fIx, seqOf, lstOf, L2.atI, L2.ixN, fAdd, fPlus, dSl, oSome, oNone, asI, fSl, fInT, fStr, fIntT, fFmt, dFmt, dJs, fPart, fStarts, fFind, fIsdig, fIsasc, fMulS, fSub, fMul, fLt, fGt, fLe, fGe, fEq, fDiv, fMod, fNeg, fPow, arity, dCall, dCallY, dCallK, noEx, dCB, fGcd, fLen, fMax2, fMin2, fInt, sFor, iRng1, fRng1, iSeq, asSeq, iAny, asAny, dIsi, fIsi, isTy, refOk, dIsN, dNotN, dIsB, dNotB, isNon, isBl, sz_lt, sz_le, sRaise, sTry, collapse_const, endX, dXf, dXis, dBM, dBM0, fPop, fApp, fRevM, tyD, *])
namespace K05
def hiD : Option (Int × Int) → D
  | none => .non
  | some m => .tup [.int m.1, .int m.2]
abbrev sp (l r : Int) (h : Option (Int × Int)) : D := .tup [.tup [.int l, .int r], hiD h]
def hiB (n : Int) (l r : Int) : Option (Int × Int) → Prop
  | none => True
  | some m => 0 ≤ m.1 ∧ m.1 ≤ n ∧ (m.2 = 0 ∨ m.2 = 1) ∧ (l < m.1 ∨ l = m.1 ∧ r = 1 ∧ m.2 = 1)
structure IsSp (n : Int) (l r : Int) (h : Option (Int × Int)) : Prop where
  l0 : 0 ≤ l
  ln : l ≤ n
  rb : r = 0 ∨ r = 1
  hb : hiB n l r h
def enc : Option (Int × Int × Option (Int × Int)) → D
  | none => .non
  | some m => sp m.1 m.2.1 m.2.2
theorem enc_n : enc none = .non := rfl
theorem enc_s (m : Int × Int × Option (Int × Int)) : enc (some m) = sp m.1 m.2.1 m.2.2 := rfl
theorem cutL (l : List Nat) (lo hi : Option Int) : L2.cutS (mkS l) lo hi = mkS ((l.drop (HT.sIx l.length 0 lo)).take (HT.sIx l.length l.length hi - HT.sIx l.length 0 lo)) := rfl
theorem cut1 (c : Nat) (m : List Nat) : L2.cutS (mkS (c :: m)) none (some 1) = mkS [c] := by
  rw [cutL]
  apply mk_inj.mpr
  have h : HT.sIx (c :: m).length (c :: m).length (some 1) = 1 := by
    show min 1 (c :: m).length = 1
    simp
  rw [h, HT.sIx_none]
  rfl
theorem cut2 (l : List Nat) (e : Nat) : L2.cutS (mkS (l ++ [e])) (some (-1)) none = mkS [e] := by
  rw [cutL]
  apply mk_inj.mpr
  have h : HT.sIx (l ++ [e]).length 0 (some (-1)) = l.length := by
    show (-1 + ((l ++ [e]).length : Int)).toNat = l.length
    simp
    omega
  rw [h, HT.sIx_none, List.drop_left' rfl]
  have : (l ++ [e]).length - l.length = 1 := by simp
  rw [this]
  rfl
theorem cut3 (c : Nat) (m : List Nat) (e : Nat) : L2.cutS (mkS (c :: (m ++ [e]))) (some 1) (some (-1)) = mkS m := by
  rw [cutL]
  apply mk_inj.mpr
  have h1 : HT.sIx (c :: (m ++ [e])).length 0 (some 1) = 1 := by
    show min 1 (c :: (m ++ [e])).length = 1
    simp
  have h2 : HT.sIx (c :: (m ++ [e])).length (c :: (m ++ [e])).length (some (-1)) = m.length + 1 := by
    show (-1 + ((c :: (m ++ [e])).length : Int)).toNat = m.length + 1
    simp
    omega
  rw [h1, h2]
  show (m ++ [e]).take (m.length + 1 - 1) = m
  rw [Nat.add_sub_cancel, List.take_left' rfl]
theorem cut4 (c : Nat) (a b : List Nat) : L2.cutS (mkS (c :: (a ++ b))) (some 1) (some ((a.length : Int) + 1)) = mkS a := by
  rw [cutL]
  apply mk_inj.mpr
  have h1 : HT.sIx (c :: (a ++ b)).length 0 (some 1) = 1 := by
    show min 1 (c :: (a ++ b)).length = 1
    simp
  have e : ((a.length : Int) + 1) = ((a.length + 1 : Nat) : Int) := by omega
  have h2 : HT.sIx (c :: (a ++ b)).length (c :: (a ++ b)).length (some ((a.length : Int) + 1)) = a.length + 1 := by
    rw [e, HT.sIx_nat]
    apply Nat.min_eq_left
    simp
  rw [h1, h2]
  show (a ++ b).take (a.length + 1 - 1) = a
  rw [Nat.add_sub_cancel, List.take_left' rfl]
theorem cut5 (c : Nat) (a b : List Nat) (e : Nat) : L2.cutS (mkS (c :: (a ++ 44 :: (b ++ [e])))) (some ((a.length : Int) + 1 + 1)) (some (-1)) = mkS b := by
  rw [cutL]
  apply mk_inj.mpr
  have e1 : ((a.length : Int) + 1 + 1) = ((a.length + 2 : Nat) : Int) := by omega
  have h1 : HT.sIx (c :: (a ++ 44 :: (b ++ [e]))).length 0 (some ((a.length : Int) + 1 + 1)) = a.length + 2 := by
    rw [e1, HT.sIx_nat]
    apply Nat.min_eq_left
    simp
  have h2 : HT.sIx (c :: (a ++ 44 :: (b ++ [e]))).length (c :: (a ++ 44 :: (b ++ [e]))).length (some (-1)) = a.length + b.length + 2 := by
    show (-1 + ((c :: (a ++ 44 :: (b ++ [e]))).length : Int)).toNat = _
    simp
    omega
  rw [h1, h2]
  have h3 : (c :: (a ++ 44 :: (b ++ [e]))).drop (a.length + 2) = b ++ [e] := by
    have : c :: (a ++ 44 :: (b ++ [e])) = (c :: a ++ [44]) ++ (b ++ [e]) := by simp
    rw [this]
    exact List.drop_left' (by simp)
  rw [h3]
  have h4 : a.length + b.length + 2 - (a.length + 2) = b.length := by omega
  rw [h4, List.take_left' rfl]
theorem ix0 (c : Nat) (m : List Nat) (h : (c :: m).length ≤ 1000000) (S : Sto) : fIx (st (c :: m)) (.int 0) S = .ok (st [c]) S := by
  have f : Fit (mkS (c :: m)).length := fitS (by rw [len_mk]; exact h)
  have g : (0 : Int) < (m.length : Int) + 1 := by omega
  simp [fIx, seqOf, f, L2.atI, L2.ixN, g]
theorem ixm (l : List Nat) (e : Nat) (h : (l ++ [e]).length ≤ 1000000) (S : Sto) : fIx (st (l ++ [e])) (.int (-1)) S = .ok (st [e]) S := by
  have f : Fit (mkS (l ++ [e])).length := fitS (by rw [len_mk]; exact h)
  have g : -((l.length : Int) + 1) ≤ -1 := by omega
  have g2 : (-1 + ((l.length : Int) + 1)).toNat = l.length := by omega
  simp [fIx, seqOf, f, L2.atI, L2.ixN, g, g2]
theorem fix0 (x y : D) (S : Sto) : fIx (.tup [x, y]) (.int 0) S = .ok x S := rfl
theorem fix1 (x y : D) (S : Sto) : fIx (.tup [x, y]) (.int 1) S = .ok y S := rfl
theorem is_whole_eq {d : D} {S : Sto} (h : refOk S d = true) : Fis_whole [d] S = .ok (.bl (isTy .int d && !isTy .bool d)) S := by
  unfold Fis_whole
  cases d <;> simp_all [fnF_eq, sRet, R.lift_ok, R.lift_ite, R.bind_ok, R.bind_ite, dVar, dAnd, dNot, dIsi, fIsi, isTy, asB_bl, F.fin_rt]
theorem is_tuple_of_eq {n : Int} {d : D} {S : Sto} (h : refOk S d = true) : Fis_tuple_of [.int n, d] S = .ok (.bl (match d with | .tup xs => decide ((xs.length : Int) = n) | _ => false)) S := by
  unfold Fis_tuple_of
  cases d <;> simp_all [fnF_eq, sRet, R.lift_ok, R.lift_ite, R.bind_ok, R.bind_ite, dVar, dAnd, dNot, dIsi, fIsi, isTy, asB_bl, F.fin_rt, dCB, aCons, aNil, fLen, seqOf, bin, fEq]
theorem is_edge_eq {l r : Int} {S : Sto} (hr : r = 0 ∨ r = 1) : Fis_edge [.tup [.int l, .int r]] S = .ok (.bl true) S := by
  have h1 := is_tuple_of_eq (n := 2) (d := .tup [.int l, .int r]) (S := S) rfl
  have h2 := is_whole_eq (d := .int l) (S := S) rfl
  have h3 := is_whole_eq (d := .int r) (S := S) rfl
  simp only [isTy] at h1 h2 h3
  unfold Fis_edge
  rcases hr with rfl | rfl <;> simp [fnF_eq, sSeq, sSet, sRet, sIf, sNil, sAsg, F.then_nx, F.then_rt, R.lift_ok, R.bind_ok, F.fin_rt, dVar, dC, bin, fEq, tB', tNot', tAnd', asB_bl, dAnd, dTup, mkT, aCons, aNil, fInT, fIn, seqOf, flatD, flatA, L2.inV, L2.eqV, sz_le, dCall, arity, gT, gN, gAll, h1, h2, h3]
theorem has_moment_eq {l r p q : Int} {S : Sto} : Fhas_moment [.tup [.int l, .int r], .tup [.int p, .int q]] S = .ok (.bl (decide (l < p ∨ l = p ∧ r = 1 ∧ q = 1))) S := by
  unfold Fhas_moment
  by_cases a : l < p
  · walk_at "z"
  · by_cases b : l = p
    · subst b
      by_cases c : r = 1 <;> by_cases d : q = 1 <;> walk_at "z"
    · have b' : ¬ p = l := fun e => b e.symm
      walk_at "z"
theorem is_span_some {l r p q : Int} {S : Sto} (l0 : 0 ≤ l) (hr : r = 0 ∨ r = 1) (hq : q = 0 ∨ q = 1) : Fis_span [sp l r (some (p, q))] S = .ok (.bl (decide (l < p ∨ l = p ∧ r = 1 ∧ q = 1))) S := by
  have h1 := is_tuple_of_eq (n := 2) (d := sp l r (some (p, q))) (S := S) rfl
  have h2 := is_edge_eq (l := l) (S := S) hr
  have h3 := is_edge_eq (l := p) (S := S) hq
  have h4 := has_moment_eq (l := l) (r := r) (p := p) (q := q) (S := S)
  generalize decide (l < p ∨ l = p ∧ r = 1 ∧ q = 1) = B at *
  simp only [sp, hiD] at *
  clear hr hq
  unfold Fis_span
  walk_at "z"
end K05
end

section
set_option Elab.async false
set_option linter.all false
set_option maxRecDepth 100000
set_option maxHeartbeats 1000000
open Z
local macro_rules | `(tactic| walk_at "z") => `(tactic| simp [fnF_eq, sSeq, sSet, sRet, sIf, sDrop, sNil, sAsg, sPar, sPut, F.then_nx, F.then_rt, F.then_bk, F.then_ct, F.then_ex, F.then_bad, F.then_ite, R.lift_ok, R.lift_ex, R.lift_bad, R.lift_ite, R.bind_ok, R.bind_ex, R.bind_bad, R.bind_ite, F.fin_nx, F.fin_rt, F.fin_ex, F.fin_bad, F.fin_ite, dVar, dC, bin, un, dAnd, dOr, dNot, tB', tAnd', tOr', tNot', dIf, asB_bl, aNil, aCons, dTup, mkT, dLst, mkL, fIx, seqOf, lstOf, L2.atI, L2.ixN, fAdd, fPlus, dSl, oSome, oNone, asI, fSl, fInT, fStr, fIntT, fFmt, dFmt, dJs, fPart, fStarts, fFind, fIsdig, fIsasc, fMulS, fSub, fMul, fLt, fGt, fLe, fGe, fEq, fDiv, fMod, fNeg, fPow, arity, dCall, dCallY, dCallK, noEx, dCB, fGcd, fLen, fMax2, fMin2, fInt, gN, gT, gAll, dIsi, fIsi, isTy, refOk, dIsN, dNotN, dIsB, dNotB, isNon, isBl, sz_lt, sz_le, sRaise, sTry, collapse_const, endX, dXf, dXis, dBM, dBM0, fPop, fApp, fRevM, tyD, *])
local macro_rules | `(tactic| walk_at "y") => `(tactic| simp [fnF_eq, sSeq, sSet, sRet, sIf, sDrop, sNil, sAsg, sPar, sPut, F.then_nx, F.then_rt, F.then_bk, F.then_ct, F.then_ex, F.then_bad, F.then_ite, R.lift_ok, R.lift_ex, R.lift_bad, R.lift_ite, R.bind_ok, R.bind_ex, R.bind_bad, R.bind_ite, F.fin_nx, F.fin_rt, F.fin_ex, F.fin_bad, F.fin_ite, dVar, dC, bin, un, dAnd, dOr, dNot, tB', tAnd', tOr', tNot', dIf, asB_bl, aNil, aCons, dTup, mkT, dLst, mkL, fIx, seqOf, lstOf, L2.atI, L2.ixN, fAdd, fPlus, dSl, oSome, oNone, asI, fSl, fInT, fStr, fIntT, fFmt, dFmt, dJs, fPart, fStarts, fFind, fIsdig, fIsasc, fMulS, fSub, fMul, fLt, fGt, fLe, fGe, fEq, fDiv, fMod, fNeg, fPow, arity, dCall, dCallY, dCallK, noEx, dCB, fGcd, fLen, fMax2, fMin2, fInt, sFor, iRng1, fRng1, iSeq, asSeq, iAny, asAny, dIsi, fIsi, isTy, refOk, dIsN, dNotN, dIsB, dNotB, isNon, isBl, sz_lt, sz_le, sRaise, sTry, collapse_const, endX, dXf, dXis, dBM, dBM0, fPop, fApp, fRevM, tyD, *])
local macro_rules | `(tactic| walk_at "x") => `(tactic| simp [fnF_eq, sSeq, sSet, sRet, sIf, sDrop, sNil, sAsg, sPar, sPut, F.then_nx, F.then_rt, F.then_bk, F.then_ct, F.then_ex, F.then_bad, F.then_ite, R.lift_ok, R.lift_ex, R.lift_bad, R.lift_ite, R.bind_ok, R.bind_ex, R.bind_bad, R.bind_ite, F.fin_nx, F.fin_rt, F.fin_ex, F.fin_bad, F.fin_ite, dVar, dC, bin, un, dAnd, dOr, dNot, tB', tAnd', tOr', tNot', dIf, asB_bl, aNil, aCons, dTup, mkT, K05.fix0, K05.fix1, fPlus, dSl, oSome, oNone, asI, fSl, fInT, fIntT, fPart, fFind, fSub, fLt, fGt, fLe, fGe, fEq, fNeg, arity, dCall, dCallY, dCallK, noEx, dCB, fLen, seqOf, gN, gT, gAll, dIsi, fIsi, isTy, refOk, dIsN, dNotN, isNon, isBl, sz_lt, sz_le, collapse_const, dBM, dBM0, tyD, *])
namespace K05
theorem s_l1 : PySem.Str.ofString "[(" = mkS [91, 40] := by decide
theorem s_l2 : PySem.Str.ofString "])" = mkS [93, 41] := by decide
theorem in1 (c : Nat) (S : Sto) : fIn true (st [c]) (.tup [st [91], st [40]]) S = .ok (.bl (!(decide (c = 91) || decide (c = 40)))) S := by
  have s1 : (91 = c) = (c = 91) := propext eq_comm
  have s2 : (40 = c) = (c = 40) := propext eq_comm
  by_cases h : c = 91 <;> by_cases h2 : c = 40 <;> simp [fIn, seqOf, flatD, flatA, L2.inV, L2.eqV, s1, s2, h, h2]
theorem in2 (c : Nat) (S : Sto) : fIn true (st [c]) (.tup [st [93], st [41]]) S = .ok (.bl (!(decide (c = 93) || decide (c = 41)))) S := by
  have s1 : (93 = c) = (c = 93) := propext eq_comm
  have s2 : (41 = c) = (c = 41) := propext eq_comm
  by_cases h : c = 93 <;> by_cases h2 : c = 41 <;> simp [fIn, seqOf, flatD, flatA, L2.inV, L2.eqV, s1, s2, h, h2]
theorem limit_text_eq {l : List Nat} (hl : l.length ≤ 1000000) (S : Sto) : Fis_limit_text [st l] S = .ok (.bl (lim l)) S := by
  have h1 := is_numeral_eq l S
  have f : Fit (mkS l).length := fitS (by rw [len_mk]; exact hl)
  unfold Fis_limit_text lim
  by_cases h9 : l.length ≤ 9
  · have g : ((mkS l).length : Int) ≤ 9 := by rw [len_mk]; omega
    have e : decide (l.length ≤ 9) = true := decide_eq_true h9
    rw [e]
    clear h9 e hl
    cases hn : numB l <;> rw [hn] at h1 <;> walk_at "x"
  · have g : ¬ ((mkS l).length : Int) ≤ 9 := by rw [len_mk]; omega
    have e : decide (l.length ≤ 9) = false := decide_eq_false h9
    rw [e]
    clear h9 e hl
    cases hn : numB l <;> rw [hn] at h1 <;> walk_at "x"
section
variable {l m a b : List Nat} {c e : Nat}
structure TxS (l m : List Nat) (c e : Nat) : Prop where
  f : Fit (mkS l).length
  c1 : L2.cutS (mkS l) none (some 1) = mkS [c]
  c2 : L2.cutS (mkS l) (some (-1)) none = mkS [e]
  c3 : L2.cutS (mkS l) (some 1) (some (-1)) = mkS m
  fm : Fit (mkS m).length
  i0 : ∀ S, fIx (st l) (.int 0) S = .ok (st [c]) S
  im : ∀ S, fIx (st l) (.int (-1)) S = .ok (st [e]) S
  ln : (l.length : Int) = m.length + 2
structure Cm (l m a b : List Nat) : Prop where
  p1 : PySem.Txt.partition (mkS m) (mkS [44]) = (mkS a, mkS [44], mkS b)
  p2 : PySem.Txt.find (mkS l) (mkS [44]) = a.length + 1
  q1 : L2.cutS (mkS l) (some 1) (some ((a.length : Int) + 1)) = mkS a
  q2 : L2.cutS (mkS l) (some ((a.length : Int) + 1 + 1)) (some (-1)) = mkS b
  la : a.length ≤ 1000000
  lb : b.length ≤ 1000000
theorem P_A (T : TxS l m c e) (h1 : c ≠ 91) (h2 : c ≠ 40) (S : Sto) : Fspan_in_text [st l] S = .ok .non S := by
  obtain ⟨f, c1, c2, c3, fm, _, _, _⟩ := T
  have x1 := in1
  have l1 : ¬ (mkS [44]).length = 0 := by decide
  unfold Fspan_in_text
  rw [s_empty, s_cm, s_bo, s_bc, s_po, s_pc]
  walk_at "x"
theorem P_B (T : TxS l m c e) (h : 44 ∉ m) (S : Sto) : Fspan_in_text [st l] S = .ok .non S := by
  obtain ⟨f, c1, c2, c3, fm, _, _, _⟩ := T
  have x1 := in1
  have p1 := part_none h
  have l1 : ¬ (mkS [44]).length = 0 := by decide
  unfold Fspan_in_text
  rw [s_empty, s_cm, s_bo, s_bc, s_po, s_pc]
  clear h
  by_cases h1 : c = 91
  · walk_at "x"
  · by_cases h2 : c = 40 <;> walk_at "x"
theorem P_C (T : TxS l m c e) (C : Cm l m a b) (h : lim a = false) (S : Sto) : Fspan_in_text [st l] S = .ok .non S := by
  obtain ⟨f, c1, c2, c3, fm, _, _, _⟩ := T
  obtain ⟨p1, _, _, _, la, lb⟩ := C
  have x1 := in1
  have d1 := limit_text_eq la
  rw [h] at d1
  have l1 : ¬ (mkS [44]).length = 0 := by decide
  unfold Fspan_in_text
  rw [s_empty, s_cm, s_bo, s_bc, s_po, s_pc]
  clear h la lb
  by_cases h1 : c = 91
  · walk_at "x"
  · by_cases h2 : c = 40 <;> walk_at "x"
theorem lim_val (h : lim a = true) : numB a = true ∧ a.length ≤ 9 ∧ PySem.intText? (mkS a) = some ((val a : Nat) : Int) ∧ (mkS a).length ≤ 640 := by
  unfold lim at h
  rw [Bool.and_eq_true, decide_eq_true_eq] at h
  exact ⟨h.1, h.2, int_val h.1 (by omega), by rw [len_mk]; omega⟩
theorem P_D (T : TxS l m c e) (C : Cm l m a []) (h : lim a = true) (hc : c = 91 ∨ c = 40) (S : Sto) : Fspan_in_text [st l] S = .ok (if e = 41 then sp (val a) (if c = 91 then 1 else 0) none else .non) S := by
  obtain ⟨f, c1, c2, c3, fm, _, _, _⟩ := T
  obtain ⟨p1, _, _, _, la, lb⟩ := C
  have x1 := in1
  have d1 := limit_text_eq la
  obtain ⟨_, _, iv, i4⟩ := lim_val h
  rw [h] at d1
  have l1 : ¬ (mkS [44]).length = 0 := by decide
  unfold Fspan_in_text
  rw [s_empty, s_cm, s_bo, s_bc, s_po, s_pc]
  simp only [sp, hiD]
  clear h la lb
  rcases hc with rfl | rfl <;> by_cases h1 : e = 41
  · subst h1; walk_at "x"
  · walk_at "x"
  · subst h1; walk_at "x"
  · walk_at "x"
theorem P_E (T : TxS l m c e) (C : Cm l m a b) (h : lim a = true) (hb : b ≠ []) (hc : c = 91 ∨ c = 40) (h1 : e ≠ 93) (h2 : e ≠ 41) (S : Sto) : Fspan_in_text [st l] S = .ok .non S := by
  obtain ⟨f, c1, c2, c3, fm, _, _, _⟩ := T
  obtain ⟨p1, _, _, _, la, lb⟩ := C
  have x1 := in1
  have x2 := in2
  have d1 := limit_text_eq la
  obtain ⟨_, _, iv, i4⟩ := lim_val h
  rw [h] at d1
  have l1 : ¬ (mkS [44]).length = 0 := by decide
  unfold Fspan_in_text
  rw [s_empty, s_cm, s_bo, s_bc, s_po, s_pc]
  clear h la lb
  rcases hc with rfl | rfl <;> walk_at "x"
theorem P_F (T : TxS l m c e) (C : Cm l m a b) (h : lim a = true) (hb : b ≠ []) (hc : c = 91 ∨ c = 40) (he : e = 93 ∨ e = 41) (h' : lim b = false) (S : Sto) : Fspan_in_text [st l] S = .ok .non S := by
  obtain ⟨f, c1, c2, c3, fm, _, _, _⟩ := T
  obtain ⟨p1, _, _, _, la, lb⟩ := C
  have x1 := in1
  have x2 := in2
  have d1 := limit_text_eq la
  have d2 := limit_text_eq lb
  obtain ⟨_, _, iv, i4⟩ := lim_val h
  rw [h] at d1
  rw [h'] at d2
  have l1 : ¬ (mkS [44]).length = 0 := by decide
  unfold Fspan_in_text
  rw [s_empty, s_cm, s_bo, s_bc, s_po, s_pc]
  clear h h' la lb
  rcases hc with rfl | rfl <;> rcases he with rfl | rfl <;> walk_at "x"
abbrev okB (c e x y : Nat) : Bool := decide ((x : Int) < y ∨ (x : Int) = y ∧ c = 91 ∧ e = 93)
theorem P_G (T : TxS l m c e) (C : Cm l m a b) (h : lim a = true) (hb : b ≠ []) (hc : c = 91 ∨ c = 40) (he : e = 93 ∨ e = 41) (h' : lim b = true) (S : Sto) : Fspan_in_text [st l] S = .ok (if okB c e (val a) (val b) then sp (val a) (if c = 91 then 1 else 0) (some (val b, if e = 93 then 1 else 0)) else .non) S := by
  obtain ⟨f, c1, c2, c3, fm, _, _, _⟩ := T
  obtain ⟨p1, _, _, _, la, lb⟩ := C
  have x1 := in1
  have x2 := in2
  have d1 := limit_text_eq la
  have d2 := limit_text_eq lb
  obtain ⟨_, _, iv, i4⟩ := lim_val h
  obtain ⟨_, _, iw, i5⟩ := lim_val h'
  rw [h] at d1
  rw [h'] at d2
  have l1 : ¬ (mkS [44]).length = 0 := by decide
  have sm := is_span_some (l := (val a : Int)) (r := if c = 91 then 1 else 0) (p := (val b : Int)) (q := if e = 93 then 1 else 0) (S := S) (by omega) (by split <;> simp) (by split <;> simp)
  have ec : (decide ((val a : Int) < val b ∨ (val a : Int) = val b ∧ (if c = 91 then (1 : Int) else 0) = 1 ∧ (if e = 93 then (1 : Int) else 0) = 1)) = okB c e (val a) (val b) := by
    apply decide_eq_decide.mpr
    rcases hc with rfl | rfl <;> rcases he with rfl | rfl <;> simp
  rw [ec] at sm
  clear ec
  generalize okB c e (val a) (val b) = B at *
  unfold Fspan_in_text
  rw [s_empty, s_cm, s_bo, s_bc, s_po, s_pc]
  simp only [sp, hiD] at *
  clear h h' la lb
  cases B <;> rcases hc with rfl | rfl <;> rcases he with rfl | rfl <;> simp only [if_true, if_false, Nat.reduceEqDiff, Bool.false_eq_true] at sm ⊢ <;> walk_at "x"
end
end K05
end

section
set_option Elab.async false
set_option linter.all false
set_option maxRecDepth 100000
set_option maxHeartbeats 1000000
open Z
local macro_rules | `(tactic| walk_at "z") => `(tactic| simp [fnF_eq, sSeq, sSet, sRet, sIf, sDrop, sNil, sAsg, sPar, sPut, F.then_nx, F.then_rt, F.then_bk, F.then_ct, F.then_ex, F.then_bad, F.then_ite, R.lift_ok, R.lift_ex, R.lift_bad, R.lift_ite, R.bind_ok, R.bind_ex, R.bind_bad, R.bind_ite, F.fin_nx, F.fin_rt, F.fin_ex, F.fin_bad, F.fin_ite, dVar, dC, bin, un, dAnd, dOr, dNot, tB', tAnd', tOr', tNot', dIf, asB_bl, aNil, aCons, dTup, mkT, dLst, mkL, fIx, seqOf, lstOf, L2.atI, L2.ixN, fAdd, fPlus, dSl, oSome, oNone, asI, fSl, fInT, fStr, fIntT, fFmt, dFmt, dJs, fPart, fStarts, fFind, fIsdig, fIsasc, fMulS, fSub, fMul, fLt, fGt, fLe, fGe, fEq, fDiv, fMod, fNeg, fPow, arity, dCall, dCallY, dCallK, noEx, dCB, fGcd, fLen, fMax2, fMin2, fInt, gN, gT, gAll, dIsi, fIsi, isTy, refOk, dIsN, dNotN, dIsB, dNotB, isNon, isBl, sz_lt, sz_le, sRaise, sTry, collapse_const, endX, dXf, dXis, dBM, dBM0, fPop, fApp, fRevM, tyD, *])
local macro_rules | `(tactic| walk_at "y") => `(tactic| simp [fnF_eq, sSeq, sSet, sRet, sIf, sDrop, sNil, sAsg, sPar, sPut, F.then_nx, F.then_rt, F.then_bk, F.then_ct, F.then_ex, F.then_bad, F.then_ite, R.lift_ok, R.lift_ex, R.lift_bad, R.lift_ite, R.bind_ok, R.bind_ex, R.bind_bad, R.bind_ite, F.fin_nx, F.fin_rt, F.fin_ex, F.fin_bad, F.fin_ite, dVar, dC, bin, un, dAnd, dOr, dNot, tB', tAnd', tOr', tNot', dIf, asB_bl, aNil, aCons, dTup, mkT, dLst, mkL, fIx, seqOf, lstOf, L2.atI, L2.ixN, fAdd, fPlus, dSl, oSome, oNone, asI, fSl, fInT, fStr, fIntT, fFmt, dFmt, dJs, fPart, fStarts, fFind, fIsdig, fIsasc, fMulS, fSub, fMul, fLt, fGt, fLe, fGe, fEq, fDiv, fMod, fNeg, fPow, arity, dCall, dCallY, dCallK, noEx, dCB, fGcd, fLen, fMax2, fMin2, fInt, sFor, iRng1, fRng1, iSeq, asSeq, iAny, asAny, dIsi, fIsi, isTy, refOk, dIsN, dNotN, dIsB, dNotB, isNon, isBl, sz_lt, sz_le, sRaise, sTry, collapse_const, endX, dXf, dXis, dBM, dBM0, fPop, fApp, fRevM, tyD, *])
local macro_rules | `(tactic| walk_at "x") => `(tactic| simp [fnF_eq, sSeq, sSet, sRet, sIf, sDrop, sNil, sAsg, sPar, sPut, F.then_nx, F.then_rt, F.then_bk, F.then_ct, F.then_ex, F.then_bad, F.then_ite, R.lift_ok, R.lift_ex, R.lift_bad, R.lift_ite, R.bind_ok, R.bind_ex, R.bind_bad, R.bind_ite, F.fin_nx, F.fin_rt, F.fin_ex, F.fin_bad, F.fin_ite, dVar, dC, bin, un, dAnd, dOr, dNot, tB', tAnd', tOr', tNot', dIf, asB_bl, aNil, aCons, dTup, mkT, K05.fix0, K05.fix1, fPlus, dSl, oSome, oNone, asI, fSl, fInT, fIntT, fPart, fFind, fSub, fLt, fGt, fLe, fGe, fEq, fNeg, arity, dCall, dCallY, dCallK, noEx, dCB, fLen, seqOf, gN, gT, gAll, dIsi, fIsi, isTy, refOk, dIsN, dNotN, isNon, isBl, sz_lt, sz_le, collapse_const, dBM, dBM0, tyD, *])
namespace K05
section
variable {l m a b : List Nat} {c e : Nat}
theorem L_A (T : TxS l m c e) (h1 : c ≠ 91) (h2 : c ≠ 40) (S : Sto) : F_law_meant [st l] S = .ok .non S := by
  obtain ⟨f, _, _, _, _, i0, im, _⟩ := T
  unfold F_law_meant
  rw [s_cm, s_l1, s_l2, s_empty, s_bo, s_bc]
  by_cases g : ((mkS l).length : Int) < 4 <;> walk_at "x"
theorem L_e (T : TxS l m c e) (hc : c = 91 ∨ c = 40) (h1 : e ≠ 93) (h2 : e ≠ 41) (S : Sto) : F_law_meant [st l] S = .ok .non S := by
  obtain ⟨f, _, _, _, _, i0, im, _⟩ := T
  unfold F_law_meant
  rw [s_cm, s_l1, s_l2, s_empty, s_bo, s_bc]
  by_cases g : ((mkS l).length : Int) < 4 <;> rcases hc with rfl | rfl <;> walk_at "x"
theorem L_B (T : TxS l m c e) (hf : PySem.Txt.find (mkS l) (mkS [44]) = -1) (hc : c = 91 ∨ c = 40) (he : e = 93 ∨ e = 41) (S : Sto) : F_law_meant [st l] S = .ok .non S := by
  obtain ⟨f, _, _, _, _, i0, im, _⟩ := T
  have l1 : ¬ (mkS [44]).length = 0 := by decide
  unfold F_law_meant
  rw [s_cm, s_l1, s_l2, s_empty, s_bo, s_bc]
  by_cases g : ((mkS l).length : Int) < 4 <;> rcases hc with rfl | rfl <;> rcases he with rfl | rfl <;> walk_at "x"
theorem L_C (T : TxS l m c e) (C : Cm l m a b) (h : lim a = false) (hc : c = 91 ∨ c = 40) (he : e = 93 ∨ e = 41) (S : Sto) : F_law_meant [st l] S = .ok .non S := by
  obtain ⟨f, _, _, _, _, i0, im, _⟩ := T
  obtain ⟨_, p2, q1, q2, la, lb⟩ := C
  have d1 := law_digits_eq a la
  rw [h] at d1
  have l1 : ¬ (mkS [44]).length = 0 := by decide
  have n1 : ¬ (a.length : Int) + 1 < 0 := by omega
  unfold F_law_meant
  rw [s_cm, s_l1, s_l2, s_empty, s_bo, s_bc]
  clear h la lb
  by_cases g : ((mkS l).length : Int) < 4 <;> rcases hc with rfl | rfl <;> rcases he with rfl | rfl <;> walk_at "x"
theorem L_D (T : TxS l m c e) (C : Cm l m a []) (h : lim a = true) (g : ¬ ((mkS l).length : Int) < 4) (hc : c = 91 ∨ c = 40) (he : e = 93 ∨ e = 41) (S : Sto) : F_law_meant [st l] S = .ok (if e = 41 then sp (val a) (if c = 91 then 1 else 0) none else .non) S := by
  obtain ⟨f, _, _, _, _, i0, im, _⟩ := T
  obtain ⟨_, p2, q1, q2, la, lb⟩ := C
  have d1 := law_digits_eq a la
  obtain ⟨_, _, iv, i4⟩ := lim_val h
  rw [h] at d1
  have l1 : ¬ (mkS [44]).length = 0 := by decide
  have n1 : ¬ (a.length : Int) + 1 < 0 := by omega
  unfold F_law_meant
  rw [s_cm, s_l1, s_l2, s_empty, s_bo, s_bc]
  simp only [sp, hiD] at *
  clear h la lb
  rcases hc with rfl | rfl <;> rcases he with rfl | rfl <;> simp only [if_true, if_false, Nat.reduceEqDiff] <;> walk_at "x"
theorem L_F (T : TxS l m c e) (C : Cm l m a b) (h : lim a = true) (hb : b ≠ []) (g : ¬ ((mkS l).length : Int) < 4) (hc : c = 91 ∨ c = 40) (he : e = 93 ∨ e = 41) (h' : lim b = false) (S : Sto) : F_law_meant [st l] S = .ok .non S := by
  obtain ⟨f, _, _, _, _, i0, im, _⟩ := T
  obtain ⟨_, p2, q1, q2, la, lb⟩ := C
  have d1 := law_digits_eq a la
  have d2 := law_digits_eq b lb
  obtain ⟨_, _, iv, i4⟩ := lim_val h
  rw [h] at d1
  rw [h'] at d2
  have l1 : ¬ (mkS [44]).length = 0 := by decide
  have n1 : ¬ (a.length : Int) + 1 < 0 := by omega
  unfold F_law_meant
  rw [s_cm, s_l1, s_l2, s_empty, s_bo, s_bc]
  clear h h' la lb
  rcases hc with rfl | rfl <;> rcases he with rfl | rfl <;> walk_at "x"
theorem L_G (T : TxS l m c e) (C : Cm l m a b) (h : lim a = true) (hb : b ≠ []) (g : ¬ ((mkS l).length : Int) < 4) (hc : c = 91 ∨ c = 40) (he : e = 93 ∨ e = 41) (h' : lim b = true) (S : Sto) : F_law_meant [st l] S = .ok (if okB c e (val a) (val b) then sp (val a) (if c = 91 then 1 else 0) (some (val b, if e = 93 then 1 else 0)) else .non) S := by
  obtain ⟨f, _, _, _, _, i0, im, _⟩ := T
  obtain ⟨_, p2, q1, q2, la, lb⟩ := C
  have d1 := law_digits_eq a la
  have d2 := law_digits_eq b lb
  obtain ⟨_, _, iv, i4⟩ := lim_val h
  obtain ⟨_, _, iw, i5⟩ := lim_val h'
  rw [h] at d1
  rw [h'] at d2
  have l1 : ¬ (mkS [44]).length = 0 := by decide
  have n1 : ¬ (a.length : Int) + 1 < 0 := by omega
  have eo : okB c e (val a) (val b) = if (val b : Int) < val a then false else if (val b : Int) = val a then decide (c = 91 ∧ e = 93) else true := by
    unfold okB
    split
    · exact decide_eq_false (by omega)
    · split
      · exact decide_eq_decide.mpr (by omega)
      · exact decide_eq_true (by omega)
  rw [eo]
  generalize hx : ((val a : Nat) : Int) = x at *
  generalize hy : ((val b : Nat) : Int) = y at *
  unfold F_law_meant
  rw [s_cm, s_l1, s_l2, s_empty, s_bo, s_bc]
  simp only [sp, hiD] at *
  clear h h' la lb eo hx hy
  by_cases o1 : y < x
  · rcases hc with rfl | rfl <;> rcases he with rfl | rfl <;> walk_at "x"
  · by_cases o2 : y = x
    · have o3 : (y = x) = True := eq_true o2
      have o4 : (x = y) = True := eq_true o2.symm
      clear o2
      rcases hc with rfl | rfl <;> rcases he with rfl | rfl <;> walk_at "x"
    · rcases hc with rfl | rfl <;> rcases he with rfl | rfl <;> walk_at "x"
end
def txt1 (c A : Nat) : List Nat := c :: (TL.numL A ++ [44, 41])
def txt2 (c A B e : Nat) : List Nat := c :: (TL.numL A ++ 44 :: (TL.numL B ++ [e]))
def Told (l : List Nat) : Option (Int × Int × Option (Int × Int)) → Prop
  | none => True
  | some (x, r, none) => ∃ A c : Nat, x = A ∧ A < 10 ^ 9 ∧ (c = 91 ∨ c = 40) ∧ r = (if c = 91 then 1 else 0) ∧ l = txt1 c A
  | some (x, r, some (y, q)) => ∃ A B c e : Nat, x = A ∧ y = B ∧ A < 10 ^ 9 ∧ B < 10 ^ 9 ∧ (c = 91 ∨ c = 40) ∧ (e = 93 ∨ e = 41) ∧ r = (if c = 91 then 1 else 0) ∧ q = (if e = 93 then 1 else 0) ∧ l = txt2 c A B e
theorem v9 {l : List Nat} (h : lim l = true) : val l < 10 ^ 9 ∧ TL.numL (val l) = l := by
  obtain ⟨h1, h2, _, _⟩ := lim_val h
  exact ⟨Nat.lt_of_lt_of_le (val_lt _ l rfl (numB_all h1)) (Nat.pow_le_pow_right (by decide) h2), back _ l rfl h1⟩
theorem tiny0 (S : Sto) : Fspan_in_text [st []] S = .ok .non S ∧ F_law_meant [st []] S = .ok .non S := by
  have f : Fit (mkS []).length := fitS (by decide)
  have x1 : fIn true (st []) (.tup [st [91], st [40]]) S = .ok (.bl true) S := by simp [fIn, seqOf, flatD, flatA, L2.inV, L2.eqV]
  have k1 : L2.cutS (mkS []) none (some 1) = mkS [] := rfl
  have k2 : L2.cutS (mkS []) (some (-1)) none = mkS [] := rfl
  have k3 : L2.cutS (mkS []) (some 1) (some (-1)) = mkS [] := rfl
  have l1 : ¬ (mkS [44]).length = 0 := by decide
  have g : ((mkS []).length : Int) < 4 := by decide
  refine ⟨?_, ?_⟩
  · unfold Fspan_in_text
    rw [s_empty, s_cm, s_bo, s_bc, s_po, s_pc]
    simp [fnF_eq, sSeq, sSet, sRet, sIf, sNil, sAsg, sPar, F.then_nx, F.then_rt, R.lift_ok, R.bind_ok, F.fin_rt, dVar, dC, bin, un, tB', tOr', asB_bl, aNil, aCons, dTup, mkT, dSl, oSome, oNone, asI, fSl, fInT, fNeg, fPart, dBM, tyD, gT, gN, gAll, sz_le, sz_lt, f, x1, k1, k2, k3, l1]
  · unfold F_law_meant
    simp [fnF_eq, sSeq, sSet, sRet, sIf, sNil, F.then_nx, F.then_rt, R.lift_ok, R.bind_ok, F.fin_rt, dVar, dC, bin, tB', tOr', asB_bl, aNil, aCons, dCB, fLen, seqOf, fLt, f, g]
theorem tiny1 (c : Nat) (S : Sto) : Fspan_in_text [st [c]] S = .ok .non S ∧ F_law_meant [st [c]] S = .ok .non S := by
  have f : Fit (mkS [c]).length := fitS (by decide : 1 ≤ 1000000)
  have f0 : Fit (mkS []).length := fitS (by decide)
  have x1 := in1 c S
  have k1 : L2.cutS (mkS [c]) none (some 1) = mkS [c] := rfl
  have k2 : L2.cutS (mkS [c]) (some (-1)) none = mkS [c] := rfl
  have k3 : L2.cutS (mkS [c]) (some 1) (some (-1)) = mkS [] := rfl
  have p1 := part_none (l := []) (by simp)
  have l1 : ¬ (mkS [44]).length = 0 := by decide
  have g : ((mkS [c]).length : Int) < 4 := (by decide : (1 : Int) < 4)
  refine ⟨?_, ?_⟩
  · unfold Fspan_in_text
    rw [s_empty, s_cm, s_bo, s_bc, s_po, s_pc]
    cases hb : (!(decide (c = 91) || decide (c = 40))) <;> rw [hb] at x1 <;> simp [fnF_eq, sSeq, sSet, sRet, sIf, sNil, sAsg, sPar, F.then_nx, F.then_rt, R.lift_ok, R.bind_ok, F.fin_rt, dVar, dC, bin, un, tB', tOr', asB_bl, aNil, aCons, dTup, mkT, dSl, oSome, oNone, asI, fSl, fInT, fNeg, fEq, fPart, dBM, tyD, gT, gN, gAll, sz_le, sz_lt, f, f0, x1, k1, k2, k3, l1, p1]
  · unfold F_law_meant
    simp [fnF_eq, sSeq, sSet, sRet, sIf, sNil, F.then_nx, F.then_rt, R.lift_ok, R.bind_ok, F.fin_rt, dVar, dC, bin, tB', tOr', asB_bl, aNil, aCons, dCB, fLen, seqOf, fLt, f, g]
theorem T_of (c e : Nat) (m : List Nat) (hl : (c :: (m ++ [e])).length ≤ 100000) : TxS (c :: (m ++ [e])) m c e := by
  have hlen : (c :: (m ++ [e])).length = m.length + 2 := by simp
  exact ⟨fitS (by rw [len_mk]; omega), cut1 c _, cut2 (c :: m) e, cut3 c m e, fitS (by rw [len_mk]; omega), fun S => ix0 c _ (by omega) S, fun S => ixm (c :: m) e (by show (c :: (m ++ [e])).length ≤ 1000000; omega) S, by omega⟩
theorem C_of (c e : Nat) (a b : List Nat) (h : 44 ∉ a) (hc : c = 91 ∨ c = 40) (hl : (c :: ((a ++ 44 :: b) ++ [e])).length ≤ 100000) : Cm (c :: ((a ++ 44 :: b) ++ [e])) (a ++ 44 :: b) a b := by
  simp only [List.length_append, List.length_cons] at hl
  have fs := find_some (a := c :: a) (b := b ++ [e]) (by simp only [List.mem_cons, not_or]; exact ⟨by omega, h⟩)
  have e1 : c :: ((a ++ 44 :: b) ++ [e]) = (c :: a) ++ 44 :: (b ++ [e]) := by simp
  refine ⟨part_some h, ?_, ?_, ?_, by omega, by omega⟩
  · rw [e1, fs]; simp
  · have := cut4 c a (44 :: (b ++ [e]))
    rw [e1]; exact this
  · have := cut5 c a b e
    rw [e1]; exact this
theorem meant (l : List Nat) (hl : l.length ≤ 100000) : ∃ o, (∀ S, Fspan_in_text [st l] S = .ok (enc o) S) ∧ (∀ S, F_law_meant [st l] S = .ok (enc o) S) ∧ Told l o := by
  match l, hl with
  | [], _ => exact ⟨none, fun S => (tiny0 S).1, fun S => (tiny0 S).2, trivial⟩
  | [c], _ => exact ⟨none, fun S => (tiny1 c S).1, fun S => (tiny1 c S).2, trivial⟩
  | c :: d :: r, hl =>
    obtain ⟨m, e, hme⟩ : ∃ m e, d :: r = m ++ [e] := by
      rcases List.eq_nil_or_concat (d :: r) with h | ⟨m, e, h⟩
      · cases h
      · exact ⟨m, e, by rw [h, List.concat_eq_append]⟩
    rw [hme] at hl ⊢
    clear hme
    have hlen : (c :: (m ++ [e])).length = m.length + 2 := by simp
    have T := T_of c e m hl
    by_cases hc : c = 91 ∨ c = 40
    · rcases split44 m with h | ⟨a, b, rfl, h⟩
      · refine ⟨none, P_B T h, ?_, trivial⟩
        by_cases he : e = 93 ∨ e = 41
        · refine L_B T ?_ hc he
          apply find_none
          simp only [List.mem_cons, List.mem_append, List.not_mem_nil, or_false, not_or]
          exact ⟨by omega, h, by omega⟩
        · exact L_e T hc (fun h => he (.inl h)) (fun h => he (.inr h))
      · have C := C_of c e a b h hc hl
        have g4 : lim a = true → ¬ ((mkS (c :: ((a ++ 44 :: b) ++ [e]))).length : Int) < 4 := fun h1 => by
          have := (lim_val h1).1
          have hn := numB_ne this
          have : 0 < a.length := List.length_pos_iff.mpr hn
          rw [len_mk, hlen]
          simp only [List.length_append, List.length_cons]
          omega
        cases h1 : lim a with
        | false =>
          refine ⟨none, P_C T C h1, ?_, trivial⟩
          by_cases he : e = 93 ∨ e = 41
          · exact L_C T C h1 hc he
          · exact L_e T hc (fun h => he (.inl h)) (fun h => he (.inr h))
        | true =>
          have g := g4 h1
          obtain ⟨va, ba⟩ := v9 h1
          by_cases he : e = 93 ∨ e = 41
          · by_cases hb : b = []
            · subst hb
              have p := P_D T C h1 hc
              have q := L_D T C h1 g hc he
              by_cases h4 : e = 41
              · refine ⟨some (val a, if c = 91 then 1 else 0, none), fun S => ?_, fun S => ?_, val a, c, rfl, va, hc, rfl, ?_⟩
                · rw [p, if_pos h4]; rfl
                · rw [q, if_pos h4]; rfl
                · unfold txt1; rw [ba, h4]; simp
              · refine ⟨none, fun S => ?_, fun S => ?_, trivial⟩
                · rw [p, if_neg h4]; rfl
                · rw [q, if_neg h4]; rfl
            · cases h2 : lim b with
              | false => exact ⟨none, P_F T C h1 hb hc he h2, L_F T C h1 hb g hc he h2, trivial⟩
              | true =>
                have p := P_G T C h1 hb hc he h2
                have q := L_G T C h1 hb g hc he h2
                obtain ⟨vb, bb⟩ := v9 h2
                cases ho : okB c e (val a) (val b) with
                | true =>
                  refine ⟨some (val a, if c = 91 then 1 else 0, some (val b, if e = 93 then 1 else 0)), fun S => ?_, fun S => ?_, val a, val b, c, e, rfl, rfl, va, vb, hc, he, rfl, rfl, ?_⟩
                  · rw [p, ho]; rfl
                  · rw [q, ho]; rfl
                  · unfold txt2; rw [ba, bb]; simp
                | false =>
                  refine ⟨none, fun S => ?_, fun S => ?_, trivial⟩
                  · rw [p, ho]; rfl
                  · rw [q, ho]; rfl
          · refine ⟨none, ?_, L_e T hc (fun h => he (.inl h)) (fun h => he (.inr h)), trivial⟩
            by_cases hb : b = []
            · subst hb
              intro S
              rw [P_D T C h1 hc, if_neg (fun h => he (.inr h))]; rfl
            · exact P_E T C h1 hb hc (fun h => he (.inl h)) (fun h => he (.inr h))
    · exact ⟨none, P_A T (fun h => hc (.inl h)) (fun h => hc (.inr h)), L_A T (fun h => hc (.inl h)) (fun h => hc (.inr h)), trivial⟩
end K05
end

section
set_option Elab.async false
set_option linter.all false
set_option maxRecDepth 100000
set_option maxHeartbeats 1000000
open Z
local macro_rules | `(tactic| walk_at "z") => `(tactic| simp [fnF_eq, sSeq, sSet, sRet, sIf, sDrop, sNil, sAsg, sPar, sPut, F.then_nx, F.then_rt, F.then_bk, F.then_ct, F.then_ex, F.then_bad, F.then_ite, R.lift_ok, R.lift_ex, R.lift_bad, R.lift_ite, R.bind_ok, R.bind_ex, R.bind_bad, R.bind_ite, F.fin_nx, F.fin_rt, F.fin_ex, F.fin_bad, F.fin_ite, dVar, dC, bin, un, dAnd, dOr, dNot, tB', tAnd', tOr', tNot', dIf, asB_bl, aNil, aCons, dTup, mkT, dLst, mkL, fIx, seqOf, lstOf, L2.atI, L2.ixN, fAdd, fPlus, dSl, oSome, oNone, asI, fSl, fInT, fStr, fIntT, fFmt, dFmt, dJs, fPart, fStarts, fFind, fIsdig, fIsasc, fMulS, fSub, fMul, fLt, fGt, fLe, fGe, fEq, fDiv, fMod, fNeg, fPow, arity, dCall, dCallY, dCallK, noEx, dCB, fGcd, fLen, fMax2, fMin2, fInt, gN, gT, gAll, dIsi, fIsi, isTy, refOk, dIsN, dNotN, dIsB, dNotB, isNon, isBl, sz_lt, sz_le, sRaise, sTry, collapse_const, endX, dXf, dXis, dBM, dBM0, fPop, fApp, fRevM, tyD, *])
local macro_rules | `(tactic| walk_at "y") => `(tactic| simp [fnF_eq, sSeq, sSet, sRet, sIf, sDrop, sNil, sAsg, sPar, sPut, F.then_nx, F.then_rt, F.then_bk, F.then_ct, F.then_ex, F.then_bad, F.then_ite, R.lift_ok, R.lift_ex, R.lift_bad, R.lift_ite, R.bind_ok, R.bind_ex, R.bind_bad, R.bind_ite, F.fin_nx, F.fin_rt, F.fin_ex, F.fin_bad, F.fin_ite, dVar, dC, bin, un, dAnd, dOr, dNot, tB', tAnd', tOr', tNot', dIf, asB_bl, aNil, aCons, dTup, mkT, dLst, mkL, fIx, seqOf, lstOf, L2.atI, L2.ixN, fAdd, fPlus, dSl, oSome, oNone, asI, fSl, fInT, fStr, fIntT, fFmt, dFmt, dJs, fPart, fStarts, fFind, fIsdig, fIsasc, fMulS, fSub, fMul, fLt, fGt, fLe, fGe, fEq, fDiv, fMod, fNeg, fPow, arity, dCall, dCallY, dCallK, noEx, dCB, fGcd, fLen, fMax2, fMin2, fInt, sFor, iRng1, fRng1, iSeq, asSeq, iAny, asAny, dIsi, fIsi, isTy, refOk, dIsN, dNotN, dIsB, dNotB, isNon, isBl, sz_lt, sz_le, sRaise, sTry, collapse_const, endX, dXf, dXis, dBM, dBM0, fPop, fApp, fRevM, tyD, *])
local macro_rules | `(tactic| walk_at "x") => `(tactic| simp [fnF_eq, sSeq, sSet, sRet, sIf, sDrop, sNil, sAsg, sPar, sPut, F.then_nx, F.then_rt, F.then_bk, F.then_ct, F.then_ex, F.then_bad, F.then_ite, R.lift_ok, R.lift_ex, R.lift_bad, R.lift_ite, R.bind_ok, R.bind_ex, R.bind_bad, R.bind_ite, F.fin_nx, F.fin_rt, F.fin_ex, F.fin_bad, F.fin_ite, dVar, dC, bin, un, dAnd, dOr, dNot, tB', tAnd', tOr', tNot', dIf, asB_bl, aNil, aCons, dTup, mkT, K05.fix0, K05.fix1, fPlus, dSl, oSome, oNone, asI, fSl, fInT, fIntT, fStr, fFmt, dFmt, dJs, fPart, fFind, fSub, fLt, fGt, fLe, fGe, fEq, fNeg, arity, dCall, dCallY, dCallK, noEx, dCB, fLen, seqOf, gN, gT, gAll, dIsi, fIsi, isTy, refOk, dIsN, dNotN, isNon, isBl, sz_lt, sz_le, collapse_const, dBM, dBM0, tyD, *])
namespace K05
theorem logok {n : Nat} (h : n < 10 ^ 40) : LogOk (n : Int) := by
  unfold LogOk
  have e : ((n : Int)).natAbs = n := by omega
  rw [e]
  by_cases h0 : n = 0
  · subst h0; decide
  · have e2 : (10 : Nat) ^ 40 < 2 ^ 200 := by decide
    have := (Nat.log2_lt h0 (k := 200)).mpr (by omega)
    omega
theorem str_num (n : Nat) : PySem.Str.ofString (toString ((n : Nat) : Int)) = mkS (TL.numL n) := TL.ext_tl (TL.tl_num n)
theorem num_len {n : Nat} (h : n < 10 ^ 40) : (TL.numL n).length ≤ 40 := TL.numL_len (by decide) h
theorem ff {a b : List Nat} (h : a.length + b.length ≤ 1000000) : Fit ((mkS a).length + (mkS b).length) := fitS (by rw [len_mk, len_mk]; exact h)
theorem fl {a : List Nat} (h : a.length ≤ 1000000) : Fit (mkS a).length := fitS (by rw [len_mk]; exact h)
theorem s_t1 : PySem.Str.ofString ",)" = mkS [44, 41] := by decide
theorem s_t2 : PySem.Str.ofString "([" = mkS [40, 91] := by decide
theorem s_t3 : PySem.Str.ofString ")]" = mkS [41, 93] := by decide
theorem px0 (x y : Nat) (S : Sto) : fIx (st [x, y]) (.int 0) S = .ok (st [x]) S := by
  have f : Fit (mkS [x, y]).length := fl (by simp)
  simp [fIx, seqOf, f, L2.atI, L2.ixN]
theorem px1 (x y : Nat) (S : Sto) : fIx (st [x, y]) (.int 1) S = .ok (st [y]) S := by
  have f : Fit (mkS [x, y]).length := fl (by simp)
  simp [fIx, seqOf, f, L2.atI, L2.ixN]
theorem txt1_len {c A : Nat} (h : A < 10 ^ 40) : (txt1 c A).length ≤ 43 := by
  have := num_len h
  unfold txt1
  simp only [List.length_append, List.length_cons, List.length_nil]; omega
theorem txt2_len {c A B e : Nat} (h : A < 10 ^ 40) (h' : B < 10 ^ 40) : (txt2 c A B e).length ≤ 83 := by
  have := num_len h
  have := num_len h'
  unfold txt2
  simp only [List.length_append, List.length_cons, List.length_nil]; omega
section
variable {c A B e : Nat} {S : Sto}
theorem span_text1 (hA : A < 10 ^ 40) (hc : c = 91 ∨ c = 40) : Fspan_text [sp A (if c = 91 then 1 else 0) none] S = .ok (st (txt1 c A)) S := by
  have l1 := logok hA
  have s1 : PySem.Str.ofString (Int.repr (A : Int)) = mkS (TL.numL A) := str_num A
  have h1 := num_len hA
  have ea : ∀ l, PySem.Str.empty ++ mkS l = mkS l := fun l => app_mkS [] l
  have ab : ∀ a b, mkS a ++ mkS b = mkS (a ++ b) := app_mkS
  have f1 : Fit (mkS [c]).length := fl (by simp)
  have f2 : Fit (mkS (c :: TL.numL A)).length := fl (by simp only [List.length_cons]; omega)
  have f3 : Fit (mkS (c :: (TL.numL A ++ [44, 41]))).length := fl (by simp only [List.length_append, List.length_cons, List.length_nil]; omega)
  unfold Fspan_text txt1
  rw [s_bo, s_po, s_bc, s_pc, s_cm, s_t1]
  simp only [sp, hiD]
  clear h1 hA
  rcases hc with rfl | rfl <;> walk_at "x"
theorem span_text2 (hA : A < 10 ^ 40) (hB : B < 10 ^ 40) (hc : c = 91 ∨ c = 40) (he : e = 93 ∨ e = 41) : Fspan_text [sp A (if c = 91 then 1 else 0) (some (B, if e = 93 then 1 else 0))] S = .ok (st (txt2 c A B e)) S := by
  have l1 := logok hA
  have l2 := logok hB
  have s1 : PySem.Str.ofString (Int.repr (A : Int)) = mkS (TL.numL A) := str_num A
  have s2 : PySem.Str.ofString (Int.repr (B : Int)) = mkS (TL.numL B) := str_num B
  have h1 := num_len hA
  have h2 := num_len hB
  have ea : ∀ l, PySem.Str.empty ++ mkS l = mkS l := fun l => app_mkS [] l
  have ab : ∀ a b, mkS a ++ mkS b = mkS (a ++ b) := app_mkS
  have f1 : Fit (mkS [c]).length := fl (by simp)
  have f6 : Fit (mkS [e]).length := fl (by simp)
  have f2 : Fit (mkS (c :: TL.numL A)).length := fl (by simp only [List.length_cons]; omega)
  have f3 : Fit (mkS (c :: (TL.numL A ++ [44]))).length := fl (by simp only [List.length_append, List.length_cons, List.length_nil]; omega)
  have f4 : Fit (mkS (c :: (TL.numL A ++ 44 :: TL.numL B))).length := fl (by simp only [List.length_append, List.length_cons, List.length_nil]; omega)
  have f5 : Fit (mkS (c :: (TL.numL A ++ 44 :: (TL.numL B ++ [e])))).length := fl (by simp only [List.length_append, List.length_cons, List.length_nil]; omega)
  unfold Fspan_text txt2
  rw [s_bo, s_po, s_bc, s_pc, s_cm, s_t1]
  simp only [sp, hiD]
  clear h1 hA h2 hB
  rcases hc with rfl | rfl <;> rcases he with rfl | rfl <;> walk_at "x"
theorem law_text1 (hA : A < 10 ^ 40) (hc : c = 91 ∨ c = 40) : F_law_text [sp A (if c = 91 then 1 else 0) none] S = .ok (st (txt1 c A)) S := by
  have l1 := logok hA
  have s1 : PySem.Str.ofString (Int.repr (A : Int)) = mkS (TL.numL A) := str_num A
  have h1 := num_len hA
  have ab : ∀ a b, mkS a ++ mkS b = mkS (a ++ b) := app_mkS
  have y0 := px0
  have y1 := px1
  have g1 : Fit ((mkS [c]).length + (mkS (TL.numL A)).length) := ff (by simp; omega)
  have g2 : Fit ((mkS (c :: TL.numL A)).length + (mkS [44]).length) := ff (by simp; omega)
  have g3 : Fit ((mkS (c :: (TL.numL A ++ [44]))).length + (mkS [41]).length) := ff (by simp; omega)
  unfold F_law_text txt1
  rw [s_t2, s_t3, s_pc, s_cm]
  simp only [sp, hiD]
  clear h1 hA
  rcases hc with rfl | rfl <;> walk_at "x"
theorem law_text2 (hA : A < 10 ^ 40) (hB : B < 10 ^ 40) (hc : c = 91 ∨ c = 40) (he : e = 93 ∨ e = 41) : F_law_text [sp A (if c = 91 then 1 else 0) (some (B, if e = 93 then 1 else 0))] S = .ok (st (txt2 c A B e)) S := by
  have l1 := logok hA
  have l2 := logok hB
  have s1 : PySem.Str.ofString (Int.repr (A : Int)) = mkS (TL.numL A) := str_num A
  have s2 : PySem.Str.ofString (Int.repr (B : Int)) = mkS (TL.numL B) := str_num B
  have h1 := num_len hA
  have h2 := num_len hB
  have ab : ∀ a b, mkS a ++ mkS b = mkS (a ++ b) := app_mkS
  have y0 := px0
  have y1 := px1
  have g1 : Fit ((mkS [c]).length + (mkS (TL.numL A)).length) := ff (by simp; omega)
  have g2 : Fit ((mkS (c :: TL.numL A)).length + (mkS [44]).length) := ff (by simp; omega)
  have g4 : Fit ((mkS (c :: (TL.numL A ++ [44]))).length + (mkS (TL.numL B)).length) := ff (by simp; omega)
  have g5 : Fit ((mkS (c :: (TL.numL A ++ 44 :: TL.numL B))).length + (mkS [e]).length) := ff (by simp; omega)
  unfold F_law_text txt2
  rw [s_t2, s_t3, s_pc, s_cm]
  simp only [sp, hiD]
  clear h1 hA h2 hB
  rcases hc with rfl | rfl <;> rcases he with rfl | rfl <;> walk_at "x"
end
def toldD (l : List Nat) : Option (Int × Int × Option (Int × Int)) → D
  | some m => .tup [.bl true, sp m.1 m.2.1 m.2.2]
  | none => .tup [.bl false, .tup [st l, .bl true]]
theorem told_eq {l : List Nat} {o : Option (Int × Int × Option (Int × Int))} {S : Sto} (h : ∀ S, Fspan_in_text [st l] S = .ok (enc o) S) : F_law_told [st l] S = .ok (toldD l o) S := by
  have h0 := h S
  clear h
  cases o with
  | none =>
    rw [enc_n] at h0
    unfold toldD F_law_told Fread_span
    walk_at "z"
  | some m =>
    rw [enc_s] at h0
    unfold toldD F_law_told Fread_span
    walk_at "z"
end K05
end

section
set_option Elab.async false
set_option linter.all false
set_option maxRecDepth 100000
set_option maxHeartbeats 1000000
open Z
local macro_rules | `(tactic| walk_at "z") => `(tactic| simp [fnF_eq, sSeq, sSet, sRet, sIf, sDrop, sNil, sAsg, sPar, sPut, F.then_nx, F.then_rt, F.then_bk, F.then_ct, F.then_ex, F.then_bad, F.then_ite, R.lift_ok, R.lift_ex, R.lift_bad, R.lift_ite, R.bind_ok, R.bind_ex, R.bind_bad, R.bind_ite, F.fin_nx, F.fin_rt, F.fin_ex, F.fin_bad, F.fin_ite, dVar, dC, bin, un, dAnd, dOr, dNot, tB', tAnd', tOr', tNot', dIf, asB_bl, aNil, aCons, dTup, mkT, dLst, mkL, fIx, seqOf, lstOf, L2.atI, L2.ixN, fAdd, fPlus, dSl, oSome, oNone, asI, fSl, fInT, fStr, fIntT, fFmt, dFmt, dJs, fPart, fStarts, fFind, fIsdig, fIsasc, fMulS, fSub, fMul, fLt, fGt, fLe, fGe, fEq, fDiv, fMod, fNeg, fPow, arity, dCall, dCallY, dCallK, noEx, dCB, fGcd, fLen, fMax2, fMin2, fInt, gN, gT, gAll, dIsi, fIsi, isTy, refOk, dIsN, dNotN, dIsB, dNotB, isNon, isBl, sz_lt, sz_le, sRaise, sTry, collapse_const, endX, dXf, dXis, dBM, dBM0, fPop, fApp, fRevM, tyD, *])
local macro_rules | `(tactic| walk_at "y") => `(tactic| simp [fnF_eq, sSeq, sSet, sRet, sIf, sDrop, sNil, sAsg, sPar, sPut, F.then_nx, F.then_rt, F.then_bk, F.then_ct, F.then_ex, F.then_bad, F.then_ite, R.lift_ok, R.lift_ex, R.lift_bad, R.lift_ite, R.bind_ok, R.bind_ex, R.bind_bad, R.bind_ite, F.fin_nx, F.fin_rt, F.fin_ex, F.fin_bad, F.fin_ite, dVar, dC, bin, un, dAnd, dOr, dNot, tB', tAnd', tOr', tNot', dIf, asB_bl, aNil, aCons, dTup, mkT, dLst, mkL, fIx, seqOf, lstOf, L2.atI, L2.ixN, fAdd, fPlus, dSl, oSome, oNone, asI, fSl, fInT, fStr, fIntT, fFmt, dFmt, dJs, fPart, fStarts, fFind, fIsdig, fIsasc, fMulS, fSub, fMul, fLt, fGt, fLe, fGe, fEq, fDiv, fMod, fNeg, fPow, arity, dCall, dCallY, dCallK, noEx, dCB, fGcd, fLen, fMax2, fMin2, fInt, sFor, iRng1, fRng1, iSeq, asSeq, iAny, asAny, dIsi, fIsi, isTy, refOk, dIsN, dNotN, dIsB, dNotB, isNon, isBl, sz_lt, sz_le, sRaise, sTry, collapse_const, endX, dXf, dXis, dBM, dBM0, fPop, fApp, fRevM, tyD, *])
namespace K05
theorem str_mk (x : PySem.Str) : ∃ l, x = mkS l := ⟨x.cps.toList, rfl⟩
theorem cut_ex (l : List Nat) (lo hi : Option Int) : ∃ k, L2.cutS (mkS l) lo hi = mkS k ∧ k.length ≤ l.length := by
  have h := L2.cutS_length (mkS l) lo hi
  exact ⟨(L2.cutS (mkS l) lo hi).cps.toList, rfl, h⟩
theorem pickS {zs : List Nat} {S rest : Sto} (hS : IsBox S rest) (hp : 0 < zs.length) (hl : zs.length ≤ 1000) : ∃ c S', F_law_pick [.ref 1, st zs] S = .ok (st [c]) S' ∧ IsBox S' rest := by
  obtain ⟨d1, S1, e1, b1, p1, q1⟩ := draw_eq (n := zs.length) hS (by omega) (by omega)
  have hi : d1.toNat < zs.length := by omega
  have hf : Fit (mkS zs).length := fitS (by rw [len_mk]; omega)
  have ln : ((mkS zs).length : Int) = zs.length := by rw [len_mk]
  refine ⟨zs[d1.toNat], S1, ?_, b1⟩
  unfold F_law_pick
  walk_at "z"
theorem bent_eq {l : List Nat} {S rest : Sto} (hS : IsBox S rest) (hl : l.length ≤ 90000) : ∃ l' S', F_law_bent [.ref 1, st l] S = .ok (st l') S' ∧ IsBox S' rest ∧ l'.length ≤ 3 * l.length + 1 := by
  obtain ⟨p, S1, e1, b1, p1, q1⟩ := draw_eq (n := (l.length : Int) + 1) hS (by omega) (by omega)
  obtain ⟨c, S2, e2, b2⟩ := pickS (zs := (PySem.Str.ofString "0123456789[](),/ -+.x\n").cps.toList) b1 (by decide) (by decide)
  obtain ⟨d, S3, e3, b3, p3, q3⟩ := draw_eq (n := 5) b2 (by decide) (by decide)
  have e2' : F_law_pick [.ref 1, .str (PySem.Str.ofString "0123456789[](),/ -+.x\n")] S1 = .ok (st [c]) S2 := e2
  clear e2
  have hf : Fit (mkS l).length := fitS (by rw [len_mk]; omega)
  have ln : ((mkS l).length : Int) = l.length := by rw [len_mk]
  have ab : ∀ a b, mkS a ++ mkS b = mkS (a ++ b) := app_mkS
  obtain ⟨k1, c1, u1⟩ := cut_ex l none (some p)
  obtain ⟨k2, c2, u2⟩ := cut_ex l (some p) none
  obtain ⟨k3, c3, u3⟩ := cut_ex l (some (p + 1)) none
  obtain ⟨k4, c4, u4⟩ := cut_ex l (some p) (some (p + 1))
  have f1 : Fit ((mkS k1).length + (mkS [c]).length) := ff (by simp; omega)
  have f2 : Fit ((mkS (k1 ++ [c])).length + (mkS k2).length) := ff (by simp; omega)
  have f3 : Fit ((mkS (k1 ++ [c])).length + (mkS k3).length) := ff (by simp; omega)
  have f4 : Fit ((mkS k1).length + (mkS k3).length) := ff (by omega)
  have f5 : Fit ((mkS k1).length + (mkS k4).length) := ff (by omega)
  have f7 : Fit ((mkS k2).length + (mkS k1).length) := ff (by omega)
  have f6 : Fit ((mkS (k1 ++ k4)).length + (mkS k2).length) := by
    refine ff ?_
    rw [List.length_append]; omega
  have v : (k1 ++ (k4 ++ k2)).length ≤ 3 * l.length + 1 := by
    rw [List.length_append, List.length_append]; omega
  rcases (by omega : d = 0 ∨ d = 1 ∨ d = 2 ∨ d = 3 ∨ d = 4) with rfl | rfl | rfl | rfl | rfl
  · refine ⟨k1 ++ c :: k2, S3, ?_, b3, ?_⟩
    · clear v
      unfold F_law_bent
      walk_at "z"
    · rw [List.length_append, List.length_cons]; omega
  · refine ⟨k1 ++ c :: k3, S3, ?_, b3, ?_⟩
    · clear v
      unfold F_law_bent
      walk_at "z"
    · rw [List.length_append, List.length_cons]; omega
  · refine ⟨k1 ++ k3, S3, ?_, b3, ?_⟩
    · clear v
      unfold F_law_bent
      walk_at "z"
    · rw [List.length_append]; omega
  · refine ⟨k1 ++ (k4 ++ k2), S3, ?_, b3, v⟩
    clear v
    unfold F_law_bent
    walk_at "z"
  · refine ⟨k2 ++ k1, S3, ?_, b3, ?_⟩
    · clear v
      unfold F_law_bent
      walk_at "z"
    · rw [List.length_append]; omega
end K05
end

section
set_option Elab.async false
set_option linter.all false
set_option maxRecDepth 100000
set_option maxHeartbeats 1000000
open Z
local macro_rules | `(tactic| walk_at "z") => `(tactic| simp [fnF_eq, sSeq, sSet, sRet, sIf, sDrop, sNil, sAsg, sPar, sPut, F.then_nx, F.then_rt, F.then_bk, F.then_ct, F.then_ex, F.then_bad, F.then_ite, R.lift_ok, R.lift_ex, R.lift_bad, R.lift_ite, R.bind_ok, R.bind_ex, R.bind_bad, R.bind_ite, F.fin_nx, F.fin_rt, F.fin_ex, F.fin_bad, F.fin_ite, dVar, dC, bin, un, dAnd, dOr, dNot, tB', tAnd', tOr', tNot', dIf, asB_bl, aNil, aCons, dTup, mkT, dLst, mkL, fIx, seqOf, lstOf, L2.atI, L2.ixN, fAdd, fPlus, dSl, oSome, oNone, asI, fSl, fInT, fStr, fIntT, fFmt, dFmt, dJs, fPart, fStarts, fFind, fIsdig, fIsasc, fMulS, fSub, fMul, fLt, fGt, fLe, fGe, fEq, fDiv, fMod, fNeg, fPow, arity, dCall, dCallY, dCallK, noEx, dCB, fGcd, fLen, fMax2, fMin2, fInt, gN, gT, gAll, dIsi, fIsi, isTy, refOk, dIsN, dNotN, dIsB, dNotB, isNon, isBl, sz_lt, sz_le, sRaise, sTry, collapse_const, endX, dXf, dXis, dBM, dBM0, fPop, fApp, fRevM, tyD, *])
local macro_rules | `(tactic| walk_at "y") => `(tactic| simp [fnF_eq, sSeq, sSet, sRet, sIf, sDrop, sNil, sAsg, sPar, sPut, F.then_nx, F.then_rt, F.then_bk, F.then_ct, F.then_ex, F.then_bad, F.then_ite, R.lift_ok, R.lift_ex, R.lift_bad, R.lift_ite, R.bind_ok, R.bind_ex, R.bind_bad, R.bind_ite, F.fin_nx, F.fin_rt, F.fin_ex, F.fin_bad, F.fin_ite, dVar, dC, bin, un, dAnd, dOr, dNot, tB', tAnd', tOr', tNot', dIf, asB_bl, aNil, aCons, dTup, mkT, dLst, mkL, fIx, seqOf, lstOf, L2.atI, L2.ixN, fAdd, fPlus, dSl, oSome, oNone, asI, fSl, fInT, fStr, fIntT, fFmt, dFmt, dJs, fPart, fStarts, fFind, fIsdig, fIsasc, fMulS, fSub, fMul, fLt, fGt, fLe, fGe, fEq, fDiv, fMod, fNeg, fPow, arity, dCall, dCallY, dCallK, noEx, dCB, fGcd, fLen, fMax2, fMin2, fInt, sFor, iRng1, fRng1, iSeq, asSeq, iAny, asAny, dIsi, fIsi, isTy, refOk, dIsN, dNotN, dIsB, dNotB, isNon, isBl, sz_lt, sz_le, sRaise, sTry, collapse_const, endX, dXf, dXis, dBM, dBM0, fPop, fApp, fRevM, tyD, *])
namespace K05
structure G (l : List Nat) : Prop where
  ne : l ≠ []
  all : ∀ c ∈ l, dig c = true
  hd : l.head? ≠ some 48
theorem G.numB {l : List Nat} (h : G l) : numB l = true := by
  obtain ⟨h1, h2, h3⟩ := h
  unfold K05.numB
  cases l with
  | nil => exact absurd rfl h1
  | cons c r =>
    have : (c :: r).all dig = true := List.all_eq_true.mpr h2
    have d : decide ((c :: r).head? = some 48) = false := decide_eq_false h3
    rw [this, d]
    simp
theorem G.snoc {l : List Nat} {c : Nat} (h : G l) (hc : dig c = true) : G (l ++ [c]) := by
  obtain ⟨h1, h2, h3⟩ := h
  refine ⟨by simp, fun x hx => ?_, ?_⟩
  · rcases List.mem_append.mp hx with h | h
    · exact h2 x h
    · rw [List.mem_singleton.mp h]; exact hc
  · cases l with
    | nil => exact absurd rfl h1
    | cons c r => exact h3
theorem sd {m : Nat} (hm : m < 10) : PySem.Str.ofString (Int.repr (m : Int)) = mkS [48 + m] := by
  have h : PySem.Str.ofString (Int.repr (m : Int)) = mkS (TL.numL m) := str_num m
  rw [h, TL.numL_lt hm]
theorem lgs {m : Nat} (h : m < 10) : LogOk (m : Int) := logok (Nat.lt_trans h (by decide))
noncomputable def lgB : SDen := (sSet 2 (bin fPlus (dVar 2) (dCB fStr (aCons (dCall (arity 2 F_law_draw) [] (aCons (dVar 0) (aCons (dC (.int 10)) (aNil)))) (aNil)))))
theorem long_def : F_law_long = fnF 4 (sSeq (sSet 2 (dCB fStr (aCons (bin fPlus (dC (.int 1)) (dCall (arity 2 F_law_draw) [] (aCons (dVar 0) (aCons (dC (.int 9)) (aNil))))) (aNil)))) (sSeq (sFor (iRng1 (aCons (bin fSub (dVar 1) (dC (.int 1))) (aNil))) (gN 3) lgB) (sRet (dVar 2)))) := rfl
theorem lgB_go {rest : Sto} {n : D} : ∀ (xs : List D) (l : List Nat) (S : Sto) (y : Option D), IsBox S rest → G l → l.length + xs.length ≤ 100 →
    ∃ (l' : List Nat) (S' : Sto) (y' : Option D), forGo (fun _ => True) (gN 3) lgB xs [some (.ref 1), some n, some (st l), y] S = .nx [some (.ref 1), some n, some (st l'), y'] S' ∧ IsBox S' rest ∧ G l' ∧ l'.length = l.length + xs.length
  | [], l, S, y, hS, hg, _ => ⟨l, S, y, forGo_nil trivial, hS, hg, rfl⟩
  | x :: xs, l, S, y, hS, hg, hl => by
    simp only [List.length_cons] at hl
    obtain ⟨d, S1, e1, b1, p1, q1⟩ := draw_eq (n := 10) hS (by decide) (by decide)
    obtain ⟨m, rfl⟩ := Int.eq_ofNat_of_zero_le p1
    have hm : m < 10 := by omega
    have s1 := sd hm
    have l1 := lgs hm
    have f1 : Fit ((mkS l).length + (mkS [48 + m]).length) := ff (by simp; omega)
    have ab : ∀ a b, mkS a ++ mkS b = mkS (a ++ b) := app_mkS
    have eb : lgB [some (.ref 1), some n, some (st l), some x] S = .nx [some (.ref 1), some n, some (st (l ++ [48 + m])), some x] S1 := by
      unfold lgB
      walk_at "z"
    have hc : dig (48 + m) = true := by rw [dig_iff]; omega
    obtain ⟨l', S', y', ih, j1, j2, j3⟩ := lgB_go (n := n) xs (l ++ [48 + m]) S1 (some x) b1 (hg.snoc hc) (by simp only [List.length_append, List.length_cons, List.length_nil]; omega)
    refine ⟨l', S', y', ?_, j1, j2, by rw [j3]; simp only [List.length_append, List.length_cons, List.length_nil]; omega⟩
    have eg : ∀ a b c d, (gN 3).run x [a, b, c, d] = some [a, b, c, some x] := fun _ _ _ _ => rfl
    rw [forGo, if_pos trivial, eg]
    simp only [eb]
    exact ih
theorem long_eq {n : Int} {S rest : Sto} (hS : IsBox S rest) (h1 : 1 ≤ n) (h2 : n ≤ 60) : ∃ l S', F_law_long [.ref 1, .int n] S = .ok (st l) S' ∧ IsBox S' rest ∧ G l ∧ l.length = n.toNat := by
  obtain ⟨d, S1, e1, b1, p1, q1⟩ := draw_eq (n := 9) hS (by decide) (by decide)
  obtain ⟨m, rfl⟩ := Int.eq_ofNat_of_zero_le p1
  have hm : 1 + m < 10 := by omega
  have s1 := sd hm
  have l1 := lgs hm
  have e : ((1 + m : Nat) : Int) = 1 + (m : Int) := by omega
  rw [e] at s1 l1
  have g0 : G [48 + (1 + m)] := ⟨by simp, fun c hc => by rw [List.mem_singleton.mp hc, dig_iff]; omega, by simp⟩
  obtain ⟨l', S', y', ih, j1, j2, j3⟩ := lgB_go (n := .int n) (rngD 0 (n.toNat - 1)) [48 + (1 + m)] S1 none b1 g0 (by rw [rngD_len]; simp only [List.length_cons, List.length_nil]; omega)
  rw [rngD_len] at j3
  have r1 : Rok (n - 1) := by unfold Rok big; omega
  refine ⟨l', S', ?_, j1, j2, by rw [j3]; simp only [List.length_cons, List.length_nil]; omega⟩
  clear j3 e h1 h2
  rw [long_def]
  walk_at "y"
end K05
end

section
set_option Elab.async false
set_option linter.all false
set_option maxRecDepth 100000
set_option maxHeartbeats 1000000
open Z
local macro_rules | `(tactic| walk_at "z") => `(tactic| simp [fnF_eq, sSeq, sSet, sRet, sIf, sDrop, sNil, sAsg, sPar, sPut, F.then_nx, F.then_rt, F.then_bk, F.then_ct, F.then_ex, F.then_bad, F.then_ite, R.lift_ok, R.lift_ex, R.lift_bad, R.lift_ite, R.bind_ok, R.bind_ex, R.bind_bad, R.bind_ite, F.fin_nx, F.fin_rt, F.fin_ex, F.fin_bad, F.fin_ite, dVar, dC, bin, un, dAnd, dOr, dNot, tB', tAnd', tOr', tNot', dIf, asB_bl, aNil, aCons, dTup, mkT, dLst, mkL, fIx, seqOf, lstOf, L2.atI, L2.ixN, fAdd, fPlus, dSl, oSome, oNone, asI, fSl, fInT, fStr, fIntT, fFmt, dFmt, dJs, fPart, fStarts, fFind, fIsdig, fIsasc, fMulS, fSub, fMul, fLt, fGt, fLe, fGe, fEq, fDiv, fMod, fNeg, fPow, arity, dCall, dCallY, dCallK, noEx, dCB, fGcd, fLen, fMax2, fMin2, fInt, gN, gT, gAll, dIsi, fIsi, isTy, refOk, dIsN, dNotN, dIsB, dNotB, isNon, isBl, sz_lt, sz_le, sRaise, sTry, collapse_const, endX, dXf, dXis, dBM, dBM0, fPop, fApp, fRevM, tyD, *])
local macro_rules | `(tactic| walk_at "y") => `(tactic| simp [fnF_eq, sSeq, sSet, sRet, sIf, sDrop, sNil, sAsg, sPar, sPut, F.then_nx, F.then_rt, F.then_bk, F.then_ct, F.then_ex, F.then_bad, F.then_ite, R.lift_ok, R.lift_ex, R.lift_bad, R.lift_ite, R.bind_ok, R.bind_ex, R.bind_bad, R.bind_ite, F.fin_nx, F.fin_rt, F.fin_ex, F.fin_bad, F.fin_ite, dVar, dC, bin, un, dAnd, dOr, dNot, tB', tAnd', tOr', tNot', dIf, asB_bl, aNil, aCons, dTup, mkT, dLst, mkL, fIx, seqOf, lstOf, L2.atI, L2.ixN, fAdd, fPlus, dSl, oSome, oNone, asI, fSl, fInT, fStr, fIntT, fFmt, dFmt, dJs, fPart, fStarts, fFind, fIsdig, fIsasc, fMulS, fSub, fMul, fLt, fGt, fLe, fGe, fEq, fDiv, fMod, fNeg, fPow, arity, dCall, dCallY, dCallK, noEx, dCB, fGcd, fLen, fMax2, fMin2, fInt, sFor, iRng1, fRng1, iSeq, asSeq, iAny, asAny, dIsi, fIsi, isTy, refOk, dIsN, dNotN, dIsB, dNotB, isNon, isBl, sz_lt, sz_le, sRaise, sTry, collapse_const, endX, dXf, dXis, dBM, dBM0, fPop, fApp, fRevM, tyD, *])
namespace K05
abbrev odds : List D := [.str (PySem.Str.ofString ""), .str (PySem.Str.ofString "["), .str (PySem.Str.ofString "[]"), .str (PySem.Str.ofString "[,]"), .str (PySem.Str.ofString "[,)"), .str (PySem.Str.ofString "(,)"), .str (PySem.Str.ofString "[2]"), .str (PySem.Str.ofString "2,5"), .str (PySem.Str.ofString "[2,]"), .str (PySem.Str.ofString "(2,]"), .str (PySem.Str.ofString "[2,2)"), .str (PySem.Str.ofString "(2,2]"), .str (PySem.Str.ofString "(2,2)"), .str (PySem.Str.ofString "[5,2]"), .str (PySem.Str.ofString "[02,5]"), .str (PySem.Str.ofString "[2,05)"), .str (PySem.Str.ofString "[00,5)"), .str (PySem.Str.ofString "[2, 5)"), .str (PySem.Str.ofString " [2,5)"), .str (PySem.Str.ofString "[2,5) "), .str (PySem.Str.ofString "[2,5)\n"), .str (PySem.Str.ofString "[-1,5)"), .str (PySem.Str.ofString "[+1,5)"), .str (PySem.Str.ofString "[2;5)"), .str (PySem.Str.ofString "[2,5,7)"), .str (PySem.Str.ofString "{2,5}"), .str (PySem.Str.ofString "]2,5["), .str (PySem.Str.ofString "[1/2,5)"), .str (PySem.Str.ofString "[2,None)"), .str (PySem.Str.ofString "[2,5))")]
theorem odd_mem {x : D} (h : x ∈ odds) : ∃ l, x = st l ∧ l.length ≤ 100 := by
  simp only [odds, List.mem_cons, List.not_mem_nil, or_false] at h
  rcases h with rfl | rfl | rfl | rfl | rfl | rfl | rfl | rfl | rfl | rfl | rfl | rfl | rfl | rfl | rfl | rfl | rfl | rfl | rfl | rfl | rfl | rfl | rfl | rfl | rfl | rfl | rfl | rfl | rfl | rfl <;> exact ⟨_, rfl, by decide⟩
theorem odd_eq {S rest : Sto} (hS : IsBox S rest) : ∃ l S', F_law_odd [.ref 1] S = .ok (st l) S' ∧ IsBox S' rest ∧ l.length ≤ 100 := by
  obtain ⟨x, S1, e1, k1, hx⟩ := pick_gen (ds := odds) hS (by simp [odds]) (by simp [odds])
  obtain ⟨l, rfl, hl⟩ := odd_mem hx
  refine ⟨l, S1, ?_, k1, hl⟩
  clear hx
  simp only [odds] at e1
  unfold F_law_odd
  simp [fnF_eq, sSeq, sSet, sRet, F.then_nx, F.then_rt, R.lift_ok, R.bind_ok, F.fin_rt, dVar, dC, bin, dLst, mkL, sz_le, aCons, aNil, fPlus, ownOf, dCall, arity, e1]
theorem pick_st {ds : List D} {S rest : Sto} (hS : IsBox S rest) (hm : 0 < ds.length) (hl : ds.length ≤ 1000) (hs : ∀ x ∈ ds, ∃ l, x = st l ∧ l.length ≤ 20) : ∃ l S', F_law_pick [.ref 1, .lst ds] S = .ok (st l) S' ∧ IsBox S' rest ∧ l.length ≤ 20 := by
  obtain ⟨x, S1, e1, b1, hx⟩ := pick_gen (ds := ds) hS hm hl
  obtain ⟨l, rfl, h⟩ := hs x hx
  exact ⟨l, S1, e1, b1, h⟩
abbrev o1 : List D := [.str (PySem.Str.ofString "0"), .str (PySem.Str.ofString "00"), .str (PySem.Str.ofString "07"), .str (PySem.Str.ofString "-1"), .str (PySem.Str.ofString " 9"), .str (PySem.Str.ofString "9 "), .str (PySem.Str.ofString "1e5"), .str (PySem.Str.ofString "999999999")]
abbrev o2 : List D := [.str (PySem.Str.ofString "["), .str (PySem.Str.ofString "(")]
abbrev o3 : List D := [.str (PySem.Str.ofString "]"), .str (PySem.Str.ofString ")")]
abbrev o4 : List D := [.str (PySem.Str.ofString "[7,"), .str (PySem.Str.ofString "["), .str (PySem.Str.ofString "(1,2")]
theorem o1_mem : ∀ x ∈ o1, ∃ l, x = st l ∧ l.length ≤ 20 := fun x h => by
  simp only [o1, List.mem_cons, List.not_mem_nil, or_false] at h
  rcases h with rfl | rfl | rfl | rfl | rfl | rfl | rfl | rfl <;> exact ⟨_, rfl, by decide⟩
theorem o2_mem : ∀ x ∈ o2, ∃ l, x = st l ∧ l.length ≤ 20 := fun x h => by
  simp only [o2, List.mem_cons, List.not_mem_nil, or_false] at h
  rcases h with rfl | rfl <;> exact ⟨_, rfl, by decide⟩
theorem o3_mem : ∀ x ∈ o3, ∃ l, x = st l ∧ l.length ≤ 20 := fun x h => by
  simp only [o3, List.mem_cons, List.not_mem_nil, or_false] at h
  rcases h with rfl | rfl <;> exact ⟨_, rfl, by decide⟩
theorem o4_mem : ∀ x ∈ o4, ∃ l, x = st l ∧ l.length ≤ 20 := fun x h => by
  simp only [o4, List.mem_cons, List.not_mem_nil, or_false] at h
  rcases h with rfl | rfl | rfl <;> exact ⟨_, rfl, by decide⟩
noncomputable def W2 : SDen := (sSeq (sIf (tB' (bin (fEq false) (dCall (arity 2 F_law_draw) [] (aCons (dVar 0) (aCons (dC (.int 6)) (aNil)))) (dC (.int 0)))) (sSet 2 (dCall (arity 2 F_law_pick) [] (aCons (dVar 0) (aCons (dLst false (aCons (dC (.str (PySem.Str.ofString "0"))) (aCons (dC (.str (PySem.Str.ofString "00"))) (aCons (dC (.str (PySem.Str.ofString "07"))) (aCons (dC (.str (PySem.Str.ofString "-1"))) (aCons (dC (.str (PySem.Str.ofString " 9"))) (aCons (dC (.str (PySem.Str.ofString "9 "))) (aCons (dC (.str (PySem.Str.ofString "1e5"))) (aCons (dC (.str (PySem.Str.ofString "999999999"))) (aNil)))))))))) (aNil))))) (sNil)) (sRet (bin fPlus (bin fPlus (bin fPlus (bin fPlus (dCall (arity 2 F_law_pick) [] (aCons (dVar 0) (aCons (dLst false (aCons (dC (.str (PySem.Str.ofString "["))) (aCons (dC (.str (PySem.Str.ofString "("))) (aNil)))) (aNil)))) (dVar 1)) (dC (.str (PySem.Str.ofString ",")))) (dVar 2)) (dCall (arity 2 F_law_pick) [] (aCons (dVar 0) (aCons (dLst false (aCons (dC (.str (PySem.Str.ofString "]"))) (aCons (dC (.str (PySem.Str.ofString ")"))) (aNil)))) (aNil)))))))
theorem wide_def : F_law_wide_text = fnF 4 (sSeq (sSet 1 (dCall (arity 2 F_law_long) [] (aCons (dVar 0) (aCons (bin fPlus (dC (.int 1)) (dCall (arity 2 F_law_draw) [] (aCons (dVar 0) (aCons (dC (.int 11)) (aNil))))) (aNil))))) (sSeq (sSet 2 (dVar 1)) (sSeq (sSet 3 (dCall (arity 2 F_law_draw) [] (aCons (dVar 0) (aCons (dC (.int 4)) (aNil))))) (sSeq (sIf (tB' (bin (fEq false) (dVar 3) (dC (.int 0)))) (sSet 2 (dC (.str (PySem.Str.ofString "")))) (sNil)) (sSeq (sIf (tB' (bin (fEq false) (dVar 3) (dC (.int 1)))) (sSet 2 (dCB fStr (aCons (bin fSub (bin fPlus (dCB fIntT (aCons (dVar 1) (aNil))) (dCall (arity 2 F_law_draw) [] (aCons (dVar 0) (aCons (dC (.int 3)) (aNil))))) (dC (.int 1))) (aNil)))) (sNil)) (sSeq (sIf (tB' (bin (fEq false) (dVar 3) (dC (.int 2)))) (sSet 2 (dCall (arity 2 F_law_long) [] (aCons (dVar 0) (aCons (bin fPlus (dC (.int 1)) (dCall (arity 2 F_law_draw) [] (aCons (dVar 0) (aCons (dC (.int 11)) (aNil))))) (aNil))))) (sNil)) W2)))))) := rfl
theorem W2_eq {a b : List Nat} {x : Option D} {S rest : Sto} (hS : IsBox S rest) (ha : a.length ≤ 20) (hb : b.length ≤ 20) : ∃ l S', W2 [some (.ref 1), some (st a), some (st b), x] S = .rt (st l) S' ∧ IsBox S' rest ∧ l.length ≤ 100 := by
  obtain ⟨d, S1, e1, b1, p1, q1⟩ := draw_eq (n := 6) hS (by decide) (by decide)
  have ab : ∀ a b, mkS a ++ mkS b = mkS (a ++ b) := app_mkS
  have sc := s_cm
  have fin : ∀ (b' : List Nat) (S2 : Sto), IsBox S2 rest → b'.length ≤ 20 → (∀ (k1 k2 : List Nat) (S3 S4 : Sto), F_law_pick [.ref 1, .lst o2] S2 = .ok (st k1) S3 → F_law_pick [.ref 1, .lst o3] S3 = .ok (st k2) S4 → Fit ((mkS k1).length + (mkS a).length) → Fit ((mkS (k1 ++ a)).length + (mkS [44]).length) → Fit ((mkS (k1 ++ (a ++ [44]))).length + (mkS b').length) → Fit ((mkS (k1 ++ (a ++ 44 :: b'))).length + (mkS k2).length) → W2 [some (.ref 1), some (st a), some (st b), x] S = .rt (st (k1 ++ (a ++ 44 :: (b' ++ k2)))) S4) → ∃ l S', W2 [some (.ref 1), some (st a), some (st b), x] S = .rt (st l) S' ∧ IsBox S' rest ∧ l.length ≤ 100 := by
    intro b' S2 b2 hb' H
    obtain ⟨k1, S3, e3, b3, h3⟩ := pick_st (ds := o2) b2 (by simp) (by simp) o2_mem
    obtain ⟨k2, S4, e4, b4, h4⟩ := pick_st (ds := o3) b3 (by simp) (by simp) o3_mem
    refine ⟨_, S4, H k1 k2 S3 S4 e3 e4 (ff (by omega)) (ff (by simp; omega)) (ff (by simp; omega)) (ff (by simp; omega)), b4, ?_⟩
    simp only [List.length_append, List.length_cons]; omega
  by_cases h : d = 0
  · obtain ⟨b', S2, e2, b2, h2⟩ := pick_st (ds := o1) b1 (by simp) (by simp) o1_mem
    refine fin b' S2 b2 h2 fun k1 k2 S3 S4 e3 e4 f1 f2 f3 f4 => ?_
    clear fin hS b1 b2 ha hb h2 p1 q1
    simp only [o1, o2, o3] at e2 e3 e4
    unfold W2
    rw [s_cm]
    walk_at "z"
  · refine fin b S1 b1 hb fun k1 k2 S3 S4 e3 e4 f1 f2 f3 f4 => ?_
    clear fin hS b1 ha hb p1 q1
    simp only [o2, o3] at e3 e4
    unfold W2
    rw [s_cm]
    walk_at "z"
theorem val_pos {l : List Nat} (h : G l) : 1 ≤ val l := by
  rcases Nat.eq_zero_or_pos (val l) with h0 | h0
  · have e := back _ l rfl h.numB
    rw [h0] at e
    have := h.hd
    rw [← e] at this
    exact absurd rfl this
  · exact h0
theorem wide_eq {S rest : Sto} (hS : IsBox S rest) : ∃ l S', F_law_wide_text [.ref 1] S = .ok (st l) S' ∧ IsBox S' rest ∧ l.length ≤ 100 := by
  obtain ⟨d, S1, e1, b1, p1, q1⟩ := draw_eq (n := 11) hS (by decide) (by decide)
  obtain ⟨a, S2, e2, b2, g2, n2⟩ := long_eq (n := 1 + d) b1 (by omega) (by omega)
  obtain ⟨c, S3, e3, b3, p3, q3⟩ := draw_eq (n := 4) b2 (by decide) (by decide)
  have ha : a.length ≤ 12 := by omega
  rw [wide_def]
  rcases (by omega : c = 0 ∨ c = 1 ∨ c = 2 ∨ c = 3) with rfl | rfl | rfl | rfl
  · obtain ⟨l, S4, e4, b4, h4⟩ := W2_eq (a := a) (b := []) (x := some (.int 0)) b3 (by omega) (by simp)
    refine ⟨l, S4, ?_, b4, h4⟩
    clear hS b1 b2 b3 b4 p1 q1 g2 n2 p3 q3 ha h4
    rw [s_empty]
    walk_at "z"
  · obtain ⟨k, S4, e4, b4, p4, q4⟩ := draw_eq (n := 3) b3 (by decide) (by decide)
    have hn := g2.numB
    have iv := int_val hn (by omega)
    have i4 : (mkS a).length ≤ 640 := by rw [len_mk]; omega
    have vp := val_pos g2
    have vl : val a < 10 ^ 12 := Nat.lt_of_lt_of_le (val_lt _ a rfl (numB_all hn)) (Nat.pow_le_pow_right (by decide) ha)
    obtain ⟨z, hz⟩ := Int.eq_ofNat_of_zero_le (a := (val a : Int) + k - 1) (by omega)
    have z13 : z < 10 ^ 13 := by omega
    have sz : PySem.Str.ofString (Int.repr ((val a : Int) + k - 1)) = mkS (TL.numL z) := by rw [hz]; exact str_num z
    have lz : LogOk ((val a : Int) + k - 1) := by rw [hz]; exact logok (Nat.lt_trans z13 (by decide))
    have lz2 : (TL.numL z).length ≤ 13 := TL.numL_len (by decide) z13
    obtain ⟨l, S5, e5, b5, h5⟩ := W2_eq (a := a) (b := TL.numL z) (x := some (.int 1)) b4 (by omega) (by omega)
    refine ⟨l, S5, ?_, b5, h5⟩
    clear hS b1 b2 b3 b4 b5 p1 q1 g2 n2 p3 q3 ha h5 p4 q4 hn vp vl hz z13 lz2
    rw [s_empty]
    walk_at "z"
  · obtain ⟨d', S4, e4, b4, p4, q4⟩ := draw_eq (n := 11) b3 (by decide) (by decide)
    obtain ⟨r, S5, e5, b5, g5, n5⟩ := long_eq (n := 1 + d') b4 (by omega) (by omega)
    obtain ⟨l, S6, e6, b6, h6⟩ := W2_eq (a := a) (b := r) (x := some (.int 2)) b5 (by omega) (by omega)
    refine ⟨l, S6, ?_, b6, h6⟩
    clear hS b1 b2 b3 b4 b5 b6 p1 q1 g2 n2 p3 q3 ha h6 p4 q4 g5 n5
    rw [s_empty]
    walk_at "z"
  · obtain ⟨l, S4, e4, b4, h4⟩ := W2_eq (a := a) (b := a) (x := some (.int 3)) b3 (by omega) (by omega)
    refine ⟨l, S4, ?_, b4, h4⟩
    clear hS b1 b2 b3 b4 p1 q1 g2 n2 p3 q3 ha h4
    rw [s_empty]
    walk_at "z"
noncomputable def tB : SDen := (sSet 1 (dCall (arity 2 F_law_bent) [] (aCons (dVar 0) (aCons (dVar 1) (aNil)))))
noncomputable def wB : SDen := (sSet 4 (bin fPlus (dVar 4) (dCall (arity 2 F_law_pick) [] (aCons (dVar 0) (aCons (dC (.str (PySem.Str.ofString "[(0012,,3)]"))) (aNil))))))
theorem string_def : F_law_string = fnF 5 (sSeq (sSet 2 (dCall (arity 2 F_law_draw) [] (aCons (dVar 0) (aCons (dC (.int 8)) (aNil))))) (sSeq (sIf (tB' (bin fLt (dVar 2) (dC (.int 3)))) (sSeq (sFor (iRng1 (aCons (dVar 2) (aNil))) (gN 3) tB) (sRet (dVar 1))) (sNil)) (sSeq (sIf (tB' (bin fLt (dVar 2) (dC (.int 6)))) (sRet (dCall (arity 1 F_law_wide_text) [] (aCons (dVar 0) (aNil)))) (sNil)) (sSeq (sIf (tB' (bin (fEq false) (dVar 2) (dC (.int 6)))) (sSeq (sIf (tB' (bin (fEq false) (dCall (arity 2 F_law_draw) [] (aCons (dVar 0) (aCons (dC (.int 8)) (aNil)))) (dC (.int 0)))) (sRet (bin fPlus (bin fPlus (dCall (arity 2 F_law_pick) [] (aCons (dVar 0) (aCons (dLst false (aCons (dC (.str (PySem.Str.ofString "[7,"))) (aCons (dC (.str (PySem.Str.ofString "["))) (aCons (dC (.str (PySem.Str.ofString "(1,2"))) (aNil))))) (aNil)))) (bin fMulS (dC (.str (PySem.Str.ofString "9"))) (dC (.int 5000)))) (dC (.str (PySem.Str.ofString ")"))))) (sNil)) (sRet (dCall (arity 1 F_law_odd) [] (aCons (dVar 0) (aNil))))) (sNil)) (sSeq (sSet 4 (dC (.str (PySem.Str.ofString "")))) (sSeq (sFor (iRng1 (aCons (dCall (arity 2 F_law_draw) [] (aCons (dVar 0) (aCons (dC (.int 9)) (aNil)))) (aNil))) (gN 3) wB) (sRet (dVar 4)))))))) := rfl
theorem tB_go {rest : Sto} {c : D} {z4 : Option D} : ∀ (xs : List D) (l : List Nat) (S : Sto) (y : Option D), IsBox S rest → (l.length + 1) * 4 ^ xs.length ≤ 80000 →
    ∃ (l' : List Nat) (S' : Sto) (y' : Option D), forGo (fun _ => True) (gN 3) tB xs [some (.ref 1), some (st l), some c, y, z4] S = .nx [some (.ref 1), some (st l'), some c, y', z4] S' ∧ IsBox S' rest ∧ l'.length ≤ 80000
  | [], l, S, y, hS, hl => ⟨l, S, y, forGo_nil trivial, hS, by simp only [List.length_nil, Nat.pow_zero, Nat.mul_one] at hl; omega⟩
  | x :: xs, l, S, y, hS, hl => by
    have hp : 1 ≤ 4 ^ xs.length := Nat.pow_pos (by decide : 0 < 4)
    simp only [List.length_cons, Nat.pow_succ] at hl
    have hl2 : l.length + 1 ≤ 80000 := Nat.le_trans (Nat.le_mul_of_pos_right _ (by omega)) hl
    obtain ⟨l1, S1, e1, b1, h1⟩ := bent_eq (l := l) hS (by omega)
    have hm : (l1.length + 1) * 4 ^ xs.length ≤ 80000 := by
      have : (l1.length + 1) * 4 ^ xs.length ≤ ((l.length + 1) * 4) * 4 ^ xs.length := Nat.mul_le_mul_right _ (by omega)
      rw [Nat.mul_assoc, Nat.mul_comm 4] at this
      exact Nat.le_trans this hl
    have eb : tB [some (.ref 1), some (st l), some c, some x, z4] S = .nx [some (.ref 1), some (st l1), some c, some x, z4] S1 := by
      clear hl hl2 hm hp
      unfold tB
      walk_at "z"
    obtain ⟨l', S', y', ih, j1, j2⟩ := tB_go (c := c) (z4 := z4) xs l1 S1 (some x) b1 hm
    refine ⟨l', S', y', ?_, j1, j2⟩
    have eg : ∀ a b c d e, (gN 3).run x [a, b, c, d, e] = some [a, b, c, some x, e] := fun _ _ _ _ _ => rfl
    rw [forGo, if_pos trivial, eg]
    simp only [eb]
    exact ih
theorem wB_go {rest : Sto} {z1 c : D} : ∀ (xs : List D) (l : List Nat) (S : Sto) (y : Option D), IsBox S rest → l.length + xs.length ≤ 100 →
    ∃ (l' : List Nat) (S' : Sto) (y' : Option D), forGo (fun _ => True) (gN 3) wB xs [some (.ref 1), some z1, some c, y, some (st l)] S = .nx [some (.ref 1), some z1, some c, y', some (st l')] S' ∧ IsBox S' rest ∧ l'.length ≤ 100
  | [], l, S, y, hS, hl => ⟨l, S, y, forGo_nil trivial, hS, by simp only [List.length_nil] at hl; omega⟩
  | x :: xs, l, S, y, hS, hl => by
    simp only [List.length_cons] at hl
    obtain ⟨d, S1, e1, b1⟩ := pickS (zs := (PySem.Str.ofString "[(0012,,3)]").cps.toList) hS (by decide) (by decide)
    have e2 : F_law_pick [.ref 1, .str (PySem.Str.ofString "[(0012,,3)]")] S = .ok (st [d]) S1 := e1
    have f1 : Fit ((mkS l).length + (mkS [d]).length) := ff (by simp; omega)
    have ab : ∀ a b, mkS a ++ mkS b = mkS (a ++ b) := app_mkS
    have eb : wB [some (.ref 1), some z1, some c, some x, some (st l)] S = .nx [some (.ref 1), some z1, some c, some x, some (st (l ++ [d]))] S1 := by
      clear e1 hl
      unfold wB
      walk_at "z"
    obtain ⟨l', S', y', ih, j1, j2⟩ := wB_go (z1 := z1) (c := c) xs (l ++ [d]) S1 (some x) b1 (by simp only [List.length_append, List.length_cons, List.length_nil]; omega)
    refine ⟨l', S', y', ?_, j1, j2⟩
    have eg : ∀ a b c d e, (gN 3).run x [a, b, c, d, e] = some [a, b, c, some x, e] := fun _ _ _ _ _ => rfl
    rw [forGo, if_pos trivial, eg]
    simp only [eb]
    exact ih
theorem rep_ex (c : Nat) (k : Int) : ∃ l, repS (mkS [c]) k = mkS l ∧ l.length ≤ k.toNat := by
  refine ⟨((List.replicate k.toNat (mkS [c]).cps).foldl (· ++ ·) #[]).toList, rfl, ?_⟩
  rw [Array.length_toList, rep_size]
  simp
theorem string_eq {l : List Nat} {S rest : Sto} (hS : IsBox S rest) (hl : l.length ≤ 100) : ∃ l' S', F_law_string [.ref 1, st l] S = .ok (st l') S' ∧ IsBox S' rest ∧ l'.length ≤ 100000 := by
  obtain ⟨c, S1, e1, b1, p1, q1⟩ := draw_eq (n := 8) hS (by decide) (by decide)
  have hbig : ∀ k : Nat, k ≤ 2 → (l.length + 1) * 4 ^ k ≤ 80000 := fun k hk => by
    have : 4 ^ k ≤ 4 ^ 2 := Nat.pow_le_pow_right (by decide) hk
    exact Nat.le_trans (Nat.mul_le_mul (by omega : l.length + 1 ≤ 101) this) (by decide)
  rw [string_def]
  by_cases h3 : c < 3
  · obtain ⟨l', S2, y, e2, b2, h2⟩ := tB_go (c := .int c) (z4 := none) (rngD 0 c.toNat) l S1 none b1 (by rw [rngD_len]; exact hbig _ (by omega))
    refine ⟨l', S2, ?_, b2, by omega⟩
    have r1 : Rok c := by unfold Rok big; omega
    clear hbig h2
    walk_at "y"
  by_cases h6 : c < 6
  · obtain ⟨l', S2, e2, b2, h2⟩ := wide_eq b1
    refine ⟨l', S2, ?_, b2, by omega⟩
    clear hbig h2
    walk_at "y"
  rcases (by omega : c = 6 ∨ c = 7) with rfl | rfl
  · obtain ⟨d, S2, e2, b2, p2, q2⟩ := draw_eq (n := 8) b1 (by decide) (by decide)
    by_cases h0 : d = 0
    · obtain ⟨k, S3, e3, b3, h3'⟩ := pick_st (ds := o4) b2 (by simp) (by simp) o4_mem
      obtain ⟨w, er, hr⟩ := rep_ex 57 5000
      have lk : (mkS [57]).length = 1 := rfl
      have hw : w.length ≤ 5000 := hr
      have ab : ∀ a b, mkS a ++ mkS b = mkS (a ++ b) := app_mkS
      have f1 : Fit ((mkS k).length + (mkS w).length) := ff (by omega)
      have f2 : Fit ((mkS (k ++ w)).length + (mkS [41]).length) := ff (by simp; omega)
      refine ⟨k ++ (w ++ [41]), S3, ?_, b3, by simp only [List.length_append, List.length_cons, List.length_nil]; omega⟩
      clear hbig hr hw h3'
      simp only [o4] at e3
      rw [s_9, s_pc]
      walk_at "y"
    · obtain ⟨l', S3, e3, b3, h3'⟩ := odd_eq b2
      refine ⟨l', S3, ?_, b3, by omega⟩
      clear hbig h3'
      walk_at "y"
  · obtain ⟨d, S2, e2, b2, p2, q2⟩ := draw_eq (n := 9) b1 (by decide) (by decide)
    obtain ⟨l', S3, y, e3, b3, h3'⟩ := wB_go (z1 := st l) (c := .int 7) (rngD 0 d.toNat) [] S2 none b2 (by rw [rngD_len]; simp only [List.length_nil]; omega)
    have r1 : Rok d := by unfold Rok big; omega
    refine ⟨l', S3, ?_, b3, by omega⟩
    clear hbig h3'
    rw [s_empty]
    walk_at "y"
end K05
end

section
set_option Elab.async false
set_option linter.all false
set_option maxRecDepth 100000
set_option maxHeartbeats 1000000
open Z
local macro_rules | `(tactic| walk_at "z") => `(tactic| simp [fnF_eq, sSeq, sSet, sRet, sIf, sDrop, sNil, sAsg, sPar, sPut, F.then_nx, F.then_rt, F.then_bk, F.then_ct, F.then_ex, F.then_bad, F.then_ite, R.lift_ok, R.lift_ex, R.lift_bad, R.lift_ite, R.bind_ok, R.bind_ex, R.bind_bad, R.bind_ite, F.fin_nx, F.fin_rt, F.fin_ex, F.fin_bad, F.fin_ite, dVar, dC, bin, un, dAnd, dOr, dNot, tB', tAnd', tOr', tNot', dIf, asB_bl, aNil, aCons, dTup, mkT, dLst, mkL, fIx, seqOf, lstOf, L2.atI, L2.ixN, fAdd, fPlus, dSl, oSome, oNone, asI, fSl, fInT, fStr, fIntT, fFmt, dFmt, dJs, fPart, fStarts, fFind, fIsdig, fIsasc, fMulS, fSub, fMul, fLt, fGt, fLe, fGe, fEq, fDiv, fMod, fNeg, fPow, arity, dCall, dCallY, dCallK, noEx, dCB, fGcd, fLen, fMax2, fMin2, fInt, gN, gT, gAll, dIsi, fIsi, isTy, refOk, dIsN, dNotN, dIsB, dNotB, isNon, isBl, sz_lt, sz_le, sRaise, sTry, collapse_const, endX, dXf, dXis, dBM, dBM0, fPop, fApp, fRevM, tyD, *])
local macro_rules | `(tactic| walk_at "y") => `(tactic| simp [fnF_eq, sSeq, sSet, sRet, sIf, sDrop, sNil, sAsg, sPar, sPut, F.then_nx, F.then_rt, F.then_bk, F.then_ct, F.then_ex, F.then_bad, F.then_ite, R.lift_ok, R.lift_ex, R.lift_bad, R.lift_ite, R.bind_ok, R.bind_ex, R.bind_bad, R.bind_ite, F.fin_nx, F.fin_rt, F.fin_ex, F.fin_bad, F.fin_ite, dVar, dC, bin, un, dAnd, dOr, dNot, tB', tAnd', tOr', tNot', dIf, asB_bl, aNil, aCons, dTup, mkT, dLst, mkL, fIx, seqOf, lstOf, L2.atI, L2.ixN, fAdd, fPlus, dSl, oSome, oNone, asI, fSl, fInT, fStr, fIntT, fFmt, dFmt, dJs, fPart, fStarts, fFind, fIsdig, fIsasc, fMulS, fSub, fMul, fLt, fGt, fLe, fGe, fEq, fDiv, fMod, fNeg, fPow, arity, dCall, dCallY, dCallK, noEx, dCB, fGcd, fLen, fMax2, fMin2, fInt, sFor, iRng1, fRng1, iSeq, asSeq, iAny, asAny, dIsi, fIsi, isTy, refOk, dIsN, dNotN, dIsB, dNotB, isNon, isBl, sz_lt, sz_le, sRaise, sTry, collapse_const, endX, dXf, dXis, dBM, dBM0, fPop, fApp, fRevM, tyD, *])
namespace K05
theorem mem4 {a b c d x : D} {P : D → Prop} (h : x ∈ [a, b, c, d]) (h1 : P a) (h2 : P b) (h3 : P c) (h4 : P d) : P x := by
  rcases List.mem_cons.mp h with rfl | h
  · exact h1
  rcases List.mem_cons.mp h with rfl | h
  · exact h2
  rcases List.mem_cons.mp h with rfl | h
  · exact h3
  rw [List.mem_singleton.mp h]; exact h4
theorem pick4 {a b c d : Int} {S rest : Sto} (hS : IsBox S rest) : ∃ i S', F_law_pick [.ref 1, .lst [.int a, .int b, .int c, .int d]] S = .ok (.int i) S' ∧ IsBox S' rest ∧ (i = a ∨ i = b ∨ i = c ∨ i = d) := by
  obtain ⟨x, S1, e1, b1, m1⟩ := pick_gen (ds := [.int a, .int b, .int c, .int d]) hS (by simp) (by simp)
  obtain ⟨i, rfl, hi⟩ : ∃ i, x = .int i ∧ (i = a ∨ i = b ∨ i = c ∨ i = d) := mem4 (P := fun x => ∃ i, x = .int i ∧ (i = a ∨ i = b ∨ i = c ∨ i = d)) m1 ⟨_, rfl, by simp⟩ ⟨_, rfl, by simp⟩ ⟨_, rfl, by simp⟩ ⟨_, rfl, by simp⟩
  exact ⟨i, S1, e1, b1, hi⟩
theorem limit_eq {S rest : Sto} (hS : IsBox S rest) : ∃ l S', F_law_limit [.ref 1] S = .ok (.int l) S' ∧ IsBox S' rest ∧ 0 ≤ l ∧ l ≤ 99 := by
  obtain ⟨i, S1, e1, b1, hi⟩ := pick4 (a := 3) (b := 4) (c := 10) (d := 100) hS
  obtain ⟨l, S2, e2, b2, p2, q2⟩ := draw_eq (n := i) b1 (by omega) (by omega)
  refine ⟨l, S2, ?_, b2, p2, by omega⟩
  unfold F_law_limit
  walk_at "z"
theorem span_eq {S rest : Sto} (hS : IsBox S rest) : ∃ l r h S', F_law_span [.ref 1] S = .ok (sp l r h) S' ∧ IsBox S' rest ∧ IsSp 99 l r h := by
  obtain ⟨l, S1, e1, b1, l0, l9⟩ := limit_eq hS
  obtain ⟨r, S2, e2, b2, r0, r1⟩ := draw_eq (n := 2) b1 (by decide) (by decide)
  obtain ⟨c, S3, e3, b3, c0, c1⟩ := draw_eq (n := 5) b2 (by decide) (by decide)
  have rb : r = 0 ∨ r = 1 := by omega
  by_cases h0 : c = 0
  · refine ⟨l, r, none, S3, ?_, b3, l0, l9, rb, trivial⟩
    unfold F_law_span sp hiD
    walk_at "z"
  by_cases h1 : c = 1
  · refine ⟨l, 1, some (l, 1), S3, ?_, b3, l0, l9, .inr rfl, l0, l9, .inr rfl, .inr ⟨rfl, rfl, rfl⟩⟩
    unfold F_law_span sp hiD
    walk_at "z"
  by_cases h9 : l = 99
  · refine ⟨l, 1, some (l, 1), S3, ?_, b3, l0, l9, .inr rfl, l0, l9, .inr rfl, .inr ⟨rfl, rfl, rfl⟩⟩
    unfold F_law_span sp hiD
    walk_at "z"
  obtain ⟨i, S4, e4, b4, hi⟩ := pick4 (a := 1) (b := 2) (c := 4) (d := 99) b3
  obtain ⟨d, S5, e5, b5, d0, d1⟩ := draw_eq (n := i) b4 (by omega) (by omega)
  obtain ⟨b, S6, e6, b6, p6, q6⟩ := draw_eq (n := 2) b5 (by decide) (by decide)
  refine ⟨l, r, some (if l + 1 + d < 99 then l + 1 + d else 99, b), S6, ?_, b6, l0, l9, rb, ?_⟩
  · clear hi rb
    unfold F_law_span sp hiD
    walk_at "z"
  · refine ⟨?_, ?_, by show b = 0 ∨ b = 1; omega, .inl ?_⟩
    · show 0 ≤ (if l + 1 + d < 99 then l + 1 + d else 99 : Int)
      split <;> omega
    · show (if l + 1 + d < 99 then l + 1 + d else 99 : Int) ≤ 99
      split <;> omega
    · show l < (if l + 1 + d < 99 then l + 1 + d else 99 : Int)
      split <;> omega
theorem numG : ∀ (n m : Nat), m ≤ n → 1 ≤ m → G (TL.numL m) := by
  intro n
  induction n with
  | zero => intro m h1 h2; omega
  | succ n ih =>
    intro m h1 h2
    by_cases h : m < 10
    · rw [TL.numL_lt h]
      exact ⟨by simp, fun c hc => by rw [List.mem_singleton.mp hc, dig_iff]; omega, by simp; omega⟩
    · rw [TL.numL_step (by omega)]
      exact (ih (m / 10) (by omega) (by omega)).snoc (by rw [dig_iff]; omega)
theorem numB_num (m : Nat) : numB (TL.numL m) = true := by
  by_cases h : m = 0
  · subst h; decide
  · exact (numG m m (Nat.le_refl _) (by omega)).numB
theorem val_num (m : Nat) : val (TL.numL m) = m := TL.numL_val m
theorem no44 (m : Nat) : 44 ∉ TL.numL m := TL.numL_free (.inl (by decide))
theorem lim_num {m : Nat} (h : m ≤ 99) : lim (TL.numL m) = true := by
  have h9 : (TL.numL m).length ≤ 9 := TL.numL_len (by decide) (Nat.lt_of_le_of_lt h (by decide))
  unfold lim
  rw [numB_num, decide_eq_true h9]; rfl
theorem good1 {c A : Nat} (hA : A ≤ 99) (hc : c = 91 ∨ c = 40) (S : Sto) : Fspan_in_text [st (txt1 c A)] S = .ok (enc (some ((A : Int), if c = 91 then 1 else 0, none))) S := by
  have e0 : txt1 c A = c :: ((TL.numL A ++ 44 :: []) ++ [41]) := by unfold txt1; simp
  have hl := txt1_len (c := c) (A := A) (Nat.lt_of_le_of_lt hA (by decide))
  rw [e0] at hl ⊢
  have p := P_D (T_of c 41 _ (by omega)) (C_of c 41 (TL.numL A) [] (no44 A) hc (by omega)) (lim_num hA) hc S
  rw [p, if_pos rfl, val_num]; rfl
theorem good2 {c A B e : Nat} (hA : A ≤ 99) (hB : B ≤ 99) (hc : c = 91 ∨ c = 40) (he : e = 93 ∨ e = 41) (ho : okB c e A B = true) (S : Sto) : Fspan_in_text [st (txt2 c A B e)] S = .ok (enc (some ((A : Int), if c = 91 then 1 else 0, some ((B : Int), if e = 93 then 1 else 0)))) S := by
  have e0 : txt2 c A B e = c :: ((TL.numL A ++ 44 :: TL.numL B) ++ [e]) := by unfold txt2; simp
  have hl := txt2_len (c := c) (A := A) (B := B) (e := e) (Nat.lt_of_le_of_lt hA (by decide)) (Nat.lt_of_le_of_lt hB (by decide))
  rw [e0] at hl ⊢
  have p := P_G (T_of c e _ (by omega)) (C_of c e (TL.numL A) (TL.numL B) (no44 A) hc (by omega)) (lim_num hA) (numB_ne (numB_num B)) hc he (lim_num hB) S
  rw [val_num, val_num, ho] at p
  rw [p]; rfl
/-- what the law's own span is -/
structure Good (l r : Int) (h : Option (Int × Int)) (t : List Nat) : Prop where
  tx : ∀ S, F_law_text [sp l r h] S = .ok (st t) S
  st : ∀ S, Fspan_text [sp l r h] S = .ok (st t) S
  rd : ∀ S, Fspan_in_text [K05.st t] S = .ok (enc (some (l, r, h))) S
  ln : t.length ≤ 100
theorem good {l r : Int} {h : Option (Int × Int)} (H : IsSp 99 l r h) : ∃ t, Good l r h t := by
  obtain ⟨l0, ln, rb, hb⟩ := H
  obtain ⟨A, rfl⟩ := Int.eq_ofNat_of_zero_le l0
  have hA : A ≤ 99 := by omega
  have hA4 : A < 10 ^ 40 := Nat.lt_of_le_of_lt hA (by decide)
  obtain ⟨c, hc, rfl⟩ : ∃ c : Nat, (c = 91 ∨ c = 40) ∧ r = (if c = 91 then 1 else 0) := by
    rcases rb with rfl | rfl
    · exact ⟨40, .inr rfl, rfl⟩
    · exact ⟨91, .inl rfl, rfl⟩
  cases h with
  | none => exact ⟨txt1 c A, fun S => law_text1 hA4 hc, fun S => span_text1 hA4 hc, good1 hA hc, by have := txt1_len (c := c) hA4; omega⟩
  | some m =>
    obtain ⟨b, q⟩ := m
    obtain ⟨b0, bn, qb, hlt⟩ := hb
    simp only at b0 bn qb hlt
    obtain ⟨B, rfl⟩ := Int.eq_ofNat_of_zero_le b0
    have hB : B ≤ 99 := by omega
    have hB4 : B < 10 ^ 40 := Nat.lt_of_le_of_lt hB (by decide)
    obtain ⟨e, he, rfl⟩ : ∃ e : Nat, (e = 93 ∨ e = 41) ∧ q = (if e = 93 then 1 else 0) := by
      rcases qb with rfl | rfl
      · exact ⟨41, .inr rfl, rfl⟩
      · exact ⟨93, .inl rfl, rfl⟩
    have ho : okB c e A B = true := by
      unfold okB
      refine decide_eq_true ?_
      rcases hlt with h | ⟨h, h1, h2⟩
      · exact .inl h
      · right
        refine ⟨h, ?_, ?_⟩
        · rcases hc with rfl | rfl
          · rfl
          · cases h1
        · rcases he with rfl | rfl
          · rfl
          · cases h2
    exact ⟨txt2 c A B e, fun S => law_text2 hA4 hB4 hc he, fun S => span_text2 hA4 hB4 hc he, good2 hA hB hc he ho, by have := txt2_len (c := c) (e := e) hA4 hB4; omega⟩
theorem same_s (l : List Nat) (S : Sto) : F_law_same 6 [st l, st l] S = .ok (.bl true) S := same_eq 5 (st l) S rfl
theorem same_d (l : List Nat) (o : Option (Int × Int × Option (Int × Int))) (S : Sto) : F_law_same 6 [toldD l o, toldD l o] S = .ok (.bl true) S := same_eq 5 (toldD l o) S (by
  cases o with
  | none => rfl
  | some m => obtain ⟨a, b, c⟩ := m; cases c <;> rfl)
end K05
end

section
set_option Elab.async false
set_option linter.all false
set_option maxRecDepth 100000
set_option maxHeartbeats 1000000
open Z
local macro_rules | `(tactic| walk_at "z") => `(tactic| simp [fnF_eq, sSeq, sSet, sRet, sIf, sDrop, sNil, sAsg, sPar, sPut, F.then_nx, F.then_rt, F.then_bk, F.then_ct, F.then_ex, F.then_bad, F.then_ite, R.lift_ok, R.lift_ex, R.lift_bad, R.lift_ite, R.bind_ok, R.bind_ex, R.bind_bad, R.bind_ite, F.fin_nx, F.fin_rt, F.fin_ex, F.fin_bad, F.fin_ite, dVar, dC, bin, un, dAnd, dOr, dNot, tB', tAnd', tOr', tNot', dIf, asB_bl, aNil, aCons, dTup, mkT, dLst, mkL, fIx, seqOf, lstOf, L2.atI, L2.ixN, fAdd, fPlus, dSl, oSome, oNone, asI, fSl, fInT, fStr, fIntT, fFmt, dFmt, dJs, fPart, fStarts, fFind, fIsdig, fIsasc, fMulS, fSub, fMul, fLt, fGt, fLe, fGe, fEq, fDiv, fMod, fNeg, fPow, arity, dCall, dCallY, dCallK, noEx, dCB, fGcd, fLen, fMax2, fMin2, fInt, gN, gT, gAll, dIsi, fIsi, isTy, refOk, dIsN, dNotN, dIsB, dNotB, isNon, isBl, sz_lt, sz_le, sRaise, sTry, collapse_const, endX, dXf, dXis, dBM, dBM0, fPop, fApp, fRevM, tyD, *])
local macro_rules | `(tactic| walk_at "y") => `(tactic| simp [fnF_eq, sSeq, sSet, sRet, sIf, sDrop, sNil, sAsg, sPar, sPut, F.then_nx, F.then_rt, F.then_bk, F.then_ct, F.then_ex, F.then_bad, F.then_ite, R.lift_ok, R.lift_ex, R.lift_bad, R.lift_ite, R.bind_ok, R.bind_ex, R.bind_bad, R.bind_ite, F.fin_nx, F.fin_rt, F.fin_ex, F.fin_bad, F.fin_ite, dVar, dC, bin, un, dAnd, dOr, dNot, tB', tAnd', tOr', tNot', dIf, asB_bl, aNil, aCons, dTup, mkT, dLst, mkL, fIx, seqOf, lstOf, L2.atI, L2.ixN, fAdd, fPlus, dSl, oSome, oNone, asI, fSl, fInT, fStr, fIntT, fFmt, dFmt, dJs, fPart, fStarts, fFind, fIsdig, fIsasc, fMulS, fSub, fMul, fLt, fGt, fLe, fGe, fEq, fDiv, fMod, fNeg, fPow, arity, dCall, dCallY, dCallK, noEx, dCB, fGcd, fLen, fMax2, fMin2, fInt, sFor, iRng1, fRng1, iSeq, asSeq, iAny, asAny, dIsi, fIsi, isTy, refOk, dIsN, dNotN, dIsB, dNotB, isNon, isBl, sz_lt, sz_le, sRaise, sTry, collapse_const, endX, dXf, dXis, dBM, dBM0, fPop, fApp, fRevM, tyD, *])
namespace K05
noncomputable def B2 : SDen := (sIf (tNot' (tB' (dCall (arity 2 (F_law_same 6)) [] (aCons (dCall (arity 1 F_law_told) [] (aCons (dVar 5) (aNil))) (aCons (dVar 7) (aNil)))))) (sRet (dC (.bl false))) (sNil))
noncomputable def B1 : SDen := (sSeq (sSet 5 (dCall (arity 2 F_law_string) [] (aCons (dVar 1) (aCons (dVar 3) (aNil))))) (sSeq (sSet 6 (dCall (arity 1 F_law_meant) [] (aCons (dVar 5) (aNil)))) (sSeq (sSet 7 (dTup (aCons (dC (.bl false)) (aCons (dTup (aCons (dVar 5) (aCons (dC (.bl true)) (aNil)))) (aNil))))) (sSeq (sIf (tB' (dNotN (dVar 6))) (sSet 7 (dTup (aCons (dC (.bl true)) (aCons (dVar 6) (aNil))))) (sNil)) (sSeq (sFor (iRng1 (aCons (dC (.int 2)) (aNil))) (gN 8) B2) (sSeq (sSet 9 (dAnd (dNotN (dVar 6)) (bin fLt (bin fIx (bin fIx (dVar 6) (dC (.int 0))) (dC (.int 0))) (dC (.int 100))))) (sIf (tAnd' (tB' (dVar 9)) (tOr' (tB' (dIsN (bin fIx (dVar 6) (dC (.int 1))))) (tB' (bin fLt (bin fIx (bin fIx (dVar 6) (dC (.int 1))) (dC (.int 0))) (dC (.int 100)))))) (sIf (tNot' (tB' (dCall (arity 2 (F_law_same 6)) [] (aCons (dCall (arity 1 Fspan_text) [] (aCons (dVar 6) (aNil))) (aCons (dVar 5) (aNil)))))) (sRet (dC (.bl false))) (sNil)) (sNil))))))))
theorem law_def : Flaw = fnF 10 (sSeq (sSet 1 (dCall (arity 1 F_law_box) [] (aCons (dVar 0) (aNil)))) (sSeq (sSet 2 (dCall (arity 1 F_law_span) [] (aCons (dVar 1) (aNil)))) (sSeq (sSet 3 (dCall (arity 1 F_law_text) [] (aCons (dVar 2) (aNil)))) (sSeq (sIf (tOr' (tNot' (tB' (dCall (arity 2 (F_law_same 6)) [] (aCons (dCall (arity 1 Fspan_text) [] (aCons (dVar 2) (aNil))) (aCons (dVar 3) (aNil)))))) (tNot' (tB' (dCall (arity 2 (F_law_same 6)) [] (aCons (dCall (arity 1 F_law_told) [] (aCons (dVar 3) (aNil))) (aCons (dTup (aCons (dC (.bl true)) (aCons (dVar 2) (aNil)))) (aNil))))))) (sRet (dC (.bl false))) (sNil)) (sSeq (sFor (iRng1 (aCons (dC (.int 2)) (aNil))) (gN 4) B1) (sRet (dCall (arity 2 (F_law_same 6)) [] (aCons (dCall (arity 1 F_law_told) [] (aCons (dVar 3) (aNil))) (aCons (dTup (aCons (dC (.bl true)) (aCons (dVar 2) (aNil)))) (aNil)))))))))) := rfl
theorem B2_lp {x0 x1 x2 x3 x4 x6 : Option D} {y8 y9 : Option D} {l : List Nat} {t : D} {S : Sto} (e : F_law_told [st l] S = .ok t S) (s : F_law_same 6 [t, t] S = .ok (.bl true) S) :
    forGo (fun _ => True) (gN 8) B2 [.int 0, .int 1] [x0, x1, x2, x3, x4, some (st l), x6, some t, y8, y9] S = .nx [x0, x1, x2, x3, x4, some (st l), x6, some t, some (.int 1), y9] S := by
  have eg : ∀ a b c d e f g i j k x, (gN 8).run x [a, b, c, d, e, f, g, i, j, k] = some [a, b, c, d, e, f, g, i, some x, k] := fun _ _ _ _ _ _ _ _ _ _ _ => rfl
  have eb : ∀ k, B2 [x0, x1, x2, x3, x4, some (st l), x6, some t, some (.int k), y9] S = .nx [x0, x1, x2, x3, x4, some (st l), x6, some t, some (.int k), y9] S := fun k => by
    unfold B2
    walk_at "z"
  rw [forGo, if_pos trivial, eg]
  simp only [eb]
  rw [forGo, if_pos trivial, eg]
  simp only [eb]
  exact forGo_nil trivial
theorem spx1 (a b : Int) : sp a b none = .tup [.tup [.int a, .int b], .non] := rfl
theorem spx2 (a b c d : Int) : sp a b (some (c, d)) = .tup [.tup [.int a, .int b], .tup [.int c, .int d]] := rfl
theorem B1_eq {sc one : D} {l0 : List Nat} {S rest : Sto} {x : D} {y5 y6 y7 y8 y9 : Option D} (hS : IsBox S rest) (hl : l0.length ≤ 100) :
    ∃ z5 z6 z7 z8 z9 S', B1 [some sc, some (.ref 1), some one, some (st l0), some x, y5, y6, y7, y8, y9] S = .nx [some sc, some (.ref 1), some one, some (st l0), some x, z5, z6, z7, z8, z9] S' ∧ IsBox S' rest := by
  obtain ⟨l, S1, e1, b1, h1⟩ := string_eq (l := l0) hS hl
  obtain ⟨o, m1, m2, tt⟩ := meant l h1
  have e2 := m2 S1
  have e3 := told_eq (S := S1) m1
  have e4 := same_d l o S1
  have r2 : Rok 2 := by unfold Rok big; omega
  have g2 : rngD 0 2 = [.int 0, .int 1] := rfl
  cases o with
  | none =>
    have lp := B2_lp (x0 := some sc) (x1 := some (.ref 1)) (x2 := some one) (x3 := some (st l0)) (x4 := some x) (x6 := some (enc none)) (y8 := y8) (y9 := y9) e3 e4
    refine ⟨some (st l), some (enc none), some (toldD l none), some (.int 1), some (.bl false), S1, ?_, b1⟩
    clear m1 m2 tt h1 hl hS b1 e3 e4
    simp only [enc_n, toldD] at *
    unfold B1
    walk_at "y"
  | some m =>
    obtain ⟨a, r, h⟩ := m
    have ee : ∃ e5 : F_law_same 6 [st l, st l] S1 = .ok (.bl true) S1, Fspan_text [sp a r h] S1 = .ok (st l) S1 := by
      refine ⟨same_s l S1, ?_⟩
      cases h with
      | none =>
        obtain ⟨A, c, rfl, hA, hc, rfl, rfl⟩ := tt
        exact span_text1 (Nat.lt_trans hA (by decide)) hc
      | some m =>
        obtain ⟨b, q⟩ := m
        obtain ⟨A, B, c, e, rfl, rfl, hA, hB, hc, he, rfl, rfl, rfl⟩ := tt
        exact span_text2 (Nat.lt_trans hA (by decide)) (Nat.lt_trans hB (by decide)) hc he
    obtain ⟨e5, e6⟩ := ee
    have lp := B2_lp (x0 := some sc) (x1 := some (.ref 1)) (x2 := some one) (x3 := some (st l0)) (x4 := some x) (x6 := some (enc (some (a, r, h)))) (y8 := y8) (y9 := y9) e3 e4
    refine ⟨some (st l), some (enc (some (a, r, h))), some (toldD l (some (a, r, h))), some (.int 1), some (.bl (decide (a < 100))), S1, ?_, b1⟩
    clear m1 m2 h1 hl hS b1 e3 e4 tt
    cases h with
    | none =>
      simp only [enc_s, toldD, spx1] at *
      by_cases hx : a < 100
      · unfold B1
        walk_at "y"
      · unfold B1
        walk_at "y"
    | some m =>
      obtain ⟨b, q⟩ := m
      simp only [enc_s, toldD, spx2] at *
      by_cases hx : a < 100
      · by_cases hy : b < 100
        · unfold B1
          walk_at "y"
        · unfold B1
          walk_at "y"
      · unfold B1
        walk_at "y"
theorem B1_go {sc one : D} {l0 : List Nat} {rest : Sto} (hl : l0.length ≤ 100) : ∀ (xs : List D) (S : Sto) (y4 y5 y6 y7 y8 y9 : Option D), IsBox S rest →
    ∃ z4 z5 z6 z7 z8 z9 S', forGo (fun _ => True) (gN 4) B1 xs [some sc, some (.ref 1), some one, some (st l0), y4, y5, y6, y7, y8, y9] S = .nx [some sc, some (.ref 1), some one, some (st l0), z4, z5, z6, z7, z8, z9] S' ∧ IsBox S' rest
  | [], S, y4, y5, y6, y7, y8, y9, hS => ⟨y4, y5, y6, y7, y8, y9, S, forGo_nil trivial, hS⟩
  | x :: xs, S, y4, y5, y6, y7, y8, y9, hS => by
    obtain ⟨z5, z6, z7, z8, z9, S1, eb, k1⟩ := B1_eq (sc := sc) (one := one) (x := x) (y5 := y5) (y6 := y6) (y7 := y7) (y8 := y8) (y9 := y9) hS hl
    obtain ⟨w4, w5, w6, w7, w8, w9, S', ih, j⟩ := B1_go (sc := sc) (one := one) hl xs S1 (some x) z5 z6 z7 z8 z9 k1
    refine ⟨w4, w5, w6, w7, w8, w9, S', ?_, j⟩
    have eg : ∀ a b c d e f g i j k, (gN 4).run x [a, b, c, d, e, f, g, i, j, k] = some [a, b, c, d, some x, f, g, i, j, k] := fun _ _ _ _ _ _ _ _ _ _ => rfl
    rw [forGo, if_pos trivial, eg]
    simp only [eb]
    exact ih
theorem holds : Holds Flaw := by
  intro ns hl _
  obtain ⟨S0, e0, B0⟩ := box_eq ns hl
  obtain ⟨l, r, h, S1, e1, k1, M⟩ := span_eq B0
  obtain ⟨t, t1, t2, hg, tl⟩ := good M
  have t3 := fun S => told_eq (S := S) hg
  have ss := fun S => same_s t S
  have sd := fun S => same_d t (some (l, r, h)) S
  obtain ⟨z4, z5, z6, z7, z8, z9, S2, e2, k2⟩ := B1_go (sc := .frz (ns.map D.int)) (one := sp l r h) (l0 := t) tl (rngD 0 2) S1 none none none none none none k1
  have g2 : rngD 0 2 = [.int 0, .int 1] := rfl
  have r2 : Rok 2 := by unfold Rok big; omega
  refine ⟨S2, ?_⟩
  simp only [toldD, g2] at t3 sd e2
  clear M hg tl B0 k1 k2
  generalize hiD h = hh at *
  rw [law_def]
  walk_at "y"
end K05
end

section
set_option Elab.async false
set_option linter.all false
set_option maxRecDepth 100000
set_option maxHeartbeats 4000000
namespace K05
open PySem PySem.Spec PyProof.Rows L2 Z
/-! ### what the top leaves -/
structure Tx (K : PySem.W.Frag) (mg : Str → Option Value) where
  b_ValueError : mg "ValueError" = none
  b_all : mg "all" = none
  b_bool : mg "bool" = none
  b_int : mg "int" = none
  b_isinstance : mg "isinstance" = none
  b_len : mg "len" = none
  b_min : mg "min" = none
  b_range : mg "range" = none
  b_str : mg "str" = none
  b_tuple : mg "tuple" = none
  w_MOST_DIGITS : Tok
  v_MOST_DIGITS : mg "MOST_DIGITS" = some (.int 9 w_MOST_DIGITS)
  c_BellError : Addr
  gl_BellError : mg "BellError" = some (.ref c_BellError)
  c_InvalidMoment : Addr
  ci_InvalidMoment : Addr
  di_InvalidMoment : FuncData
  e_InvalidMoment : ErrC K mg "InvalidMoment" c_InvalidMoment ["value"]
  i_InvalidMoment : PySem.W.findIn K (.ref c_InvalidMoment) "__init__" = some (some (.ref ci_InvalidMoment))
  t_InvalidMoment : PySem.W.typeIn K (.ref ci_InvalidMoment) = some (.type "function")
  u_InvalidMoment : Fun K "__init__" "InvalidMoment.__init__" sInvalidMoment ci_InvalidMoment di_InvalidMoment
  x_InvalidMoment : PySem.W.exmOne K (.ref c_InvalidMoment) (.ref c_InvalidMoment) = some true
  c_InvalidSpan : Addr
  ci_InvalidSpan : Addr
  di_InvalidSpan : FuncData
  e_InvalidSpan : ErrC K mg "InvalidSpan" c_InvalidSpan ["value"]
  i_InvalidSpan : PySem.W.findIn K (.ref c_InvalidSpan) "__init__" = some (some (.ref ci_InvalidSpan))
  t_InvalidSpan : PySem.W.typeIn K (.ref ci_InvalidSpan) = some (.type "function")
  u_InvalidSpan : Fun K "__init__" "InvalidSpan.__init__" sInvalidSpan ci_InvalidSpan di_InvalidSpan
  x_InvalidSpan : PySem.W.exmOne K (.ref c_InvalidSpan) (.ref c_InvalidSpan) = some true
  c_InvalidTable : Addr
  ci_InvalidTable : Addr
  di_InvalidTable : FuncData
  e_InvalidTable : ErrC K mg "InvalidTable" c_InvalidTable ["value"]
  i_InvalidTable : PySem.W.findIn K (.ref c_InvalidTable) "__init__" = some (some (.ref ci_InvalidTable))
  t_InvalidTable : PySem.W.typeIn K (.ref ci_InvalidTable) = some (.type "function")
  u_InvalidTable : Fun K "__init__" "InvalidTable.__init__" sInvalidTable ci_InvalidTable di_InvalidTable
  x_InvalidTable : PySem.W.exmOne K (.ref c_InvalidTable) (.ref c_InvalidTable) = some true
  k_InvalidSpan_BellError : PySem.W.kitOne K (.ref c_InvalidSpan) (.ref c_BellError) = some true
  k_InvalidSpan_InvalidMoment : PySem.W.kitOne K (.ref c_InvalidSpan) (.ref c_InvalidMoment) = some false
  k_InvalidSpan_InvalidTable : PySem.W.kitOne K (.ref c_InvalidSpan) (.ref c_InvalidTable) = some false
  k_InvalidSpan_ValueError : PySem.W.kitOne K (.ref c_InvalidSpan) (.type "ValueError") = some true
  a_is_whole : Addr
  d_is_whole : FuncData
  g_is_whole : mg "is_whole" = some (.ref a_is_whole)
  u_is_whole : Fun K "is_whole" "is_whole" sis_whole a_is_whole d_is_whole
  k_is_whole : PySem.W.keepIn K (.ref a_is_whole) = true
  a_is_tuple_of : Addr
  d_is_tuple_of : FuncData
  g_is_tuple_of : mg "is_tuple_of" = some (.ref a_is_tuple_of)
  u_is_tuple_of : Fun K "is_tuple_of" "is_tuple_of" sis_tuple_of a_is_tuple_of d_is_tuple_of
  k_is_tuple_of : PySem.W.keepIn K (.ref a_is_tuple_of) = true
  a_is_numeral : Addr
  d_is_numeral : FuncData
  g_is_numeral : mg "is_numeral" = some (.ref a_is_numeral)
  u_is_numeral : Fun K "is_numeral" "is_numeral" sis_numeral a_is_numeral d_is_numeral
  k_is_numeral : PySem.W.keepIn K (.ref a_is_numeral) = true
  a_is_edge : Addr
  d_is_edge : FuncData
  g_is_edge : mg "is_edge" = some (.ref a_is_edge)
  u_is_edge : Fun K "is_edge" "is_edge" sis_edge a_is_edge d_is_edge
  k_is_edge : PySem.W.keepIn K (.ref a_is_edge) = true
  a_is_span : Addr
  d_is_span : FuncData
  g_is_span : mg "is_span" = some (.ref a_is_span)
  u_is_span : Fun K "is_span" "is_span" sis_span a_is_span d_is_span
  k_is_span : PySem.W.keepIn K (.ref a_is_span) = true
  a_has_moment : Addr
  d_has_moment : FuncData
  g_has_moment : mg "has_moment" = some (.ref a_has_moment)
  u_has_moment : Fun K "has_moment" "has_moment" shas_moment a_has_moment d_has_moment
  k_has_moment : PySem.W.keepIn K (.ref a_has_moment) = true
  a_span_text : Addr
  d_span_text : FuncData
  g_span_text : mg "span_text" = some (.ref a_span_text)
  u_span_text : Fun K "span_text" "span_text" sspan_text a_span_text d_span_text
  k_span_text : PySem.W.keepIn K (.ref a_span_text) = true
  a_read_span : Addr
  d_read_span : FuncData
  g_read_span : mg "read_span" = some (.ref a_read_span)
  u_read_span : Fun K "read_span" "read_span" sread_span a_read_span d_read_span
  k_read_span : PySem.W.keepIn K (.ref a_read_span) = true
  a_is_limit_text : Addr
  d_is_limit_text : FuncData
  g_is_limit_text : mg "is_limit_text" = some (.ref a_is_limit_text)
  u_is_limit_text : Fun K "is_limit_text" "is_limit_text" sis_limit_text a_is_limit_text d_is_limit_text
  k_is_limit_text : PySem.W.keepIn K (.ref a_is_limit_text) = true
  a_span_in_text : Addr
  d_span_in_text : FuncData
  g_span_in_text : mg "span_in_text" = some (.ref a_span_in_text)
  u_span_in_text : Fun K "span_in_text" "span_in_text" sspan_in_text a_span_in_text d_span_in_text
  k_span_in_text : PySem.W.keepIn K (.ref a_span_in_text) = true
  a__law_box : Addr
  d__law_box : FuncData
  g__law_box : mg "_law_box" = some (.ref a__law_box)
  u__law_box : Fun K "_law_box" "_law_box" s_law_box a__law_box d__law_box
  k__law_box : PySem.W.keepIn K (.ref a__law_box) = true
  a__law_draw : Addr
  d__law_draw : FuncData
  g__law_draw : mg "_law_draw" = some (.ref a__law_draw)
  u__law_draw : Fun K "_law_draw" "_law_draw" s_law_draw a__law_draw d__law_draw
  k__law_draw : PySem.W.keepIn K (.ref a__law_draw) = true
  a__law_pick : Addr
  d__law_pick : FuncData
  g__law_pick : mg "_law_pick" = some (.ref a__law_pick)
  u__law_pick : Fun K "_law_pick" "_law_pick" s_law_pick a__law_pick d__law_pick
  k__law_pick : PySem.W.keepIn K (.ref a__law_pick) = true
  a__law_same : Addr
  d__law_same : FuncData
  g__law_same : mg "_law_same" = some (.ref a__law_same)
  u__law_same : Fun K "_law_same" "_law_same" s_law_same a__law_same d__law_same
  k__law_same : PySem.W.keepIn K (.ref a__law_same) = true
  a__law_limit : Addr
  d__law_limit : FuncData
  g__law_limit : mg "_law_limit" = some (.ref a__law_limit)
  u__law_limit : Fun K "_law_limit" "_law_limit" s_law_limit a__law_limit d__law_limit
  k__law_limit : PySem.W.keepIn K (.ref a__law_limit) = true
  a__law_span : Addr
  d__law_span : FuncData
  g__law_span : mg "_law_span" = some (.ref a__law_span)
  u__law_span : Fun K "_law_span" "_law_span" s_law_span a__law_span d__law_span
  k__law_span : PySem.W.keepIn K (.ref a__law_span) = true
  a__law_text : Addr
  d__law_text : FuncData
  g__law_text : mg "_law_text" = some (.ref a__law_text)
  u__law_text : Fun K "_law_text" "_law_text" s_law_text a__law_text d__law_text
  k__law_text : PySem.W.keepIn K (.ref a__law_text) = true
  a__law_digits : Addr
  d__law_digits : FuncData
  g__law_digits : mg "_law_digits" = some (.ref a__law_digits)
  u__law_digits : Fun K "_law_digits" "_law_digits" s_law_digits a__law_digits d__law_digits
  k__law_digits : PySem.W.keepIn K (.ref a__law_digits) = true
  a__law_meant : Addr
  d__law_meant : FuncData
  g__law_meant : mg "_law_meant" = some (.ref a__law_meant)
  u__law_meant : Fun K "_law_meant" "_law_meant" s_law_meant a__law_meant d__law_meant
  k__law_meant : PySem.W.keepIn K (.ref a__law_meant) = true
  a__law_bent : Addr
  d__law_bent : FuncData
  g__law_bent : mg "_law_bent" = some (.ref a__law_bent)
  u__law_bent : Fun K "_law_bent" "_law_bent" s_law_bent a__law_bent d__law_bent
  k__law_bent : PySem.W.keepIn K (.ref a__law_bent) = true
  a__law_odd : Addr
  d__law_odd : FuncData
  g__law_odd : mg "_law_odd" = some (.ref a__law_odd)
  u__law_odd : Fun K "_law_odd" "_law_odd" s_law_odd a__law_odd d__law_odd
  k__law_odd : PySem.W.keepIn K (.ref a__law_odd) = true
  a__law_long : Addr
  d__law_long : FuncData
  g__law_long : mg "_law_long" = some (.ref a__law_long)
  u__law_long : Fun K "_law_long" "_law_long" s_law_long a__law_long d__law_long
  k__law_long : PySem.W.keepIn K (.ref a__law_long) = true
  a__law_wide_text : Addr
  d__law_wide_text : FuncData
  g__law_wide_text : mg "_law_wide_text" = some (.ref a__law_wide_text)
  u__law_wide_text : Fun K "_law_wide_text" "_law_wide_text" s_law_wide_text a__law_wide_text d__law_wide_text
  k__law_wide_text : PySem.W.keepIn K (.ref a__law_wide_text) = true
  a__law_string : Addr
  d__law_string : FuncData
  g__law_string : mg "_law_string" = some (.ref a__law_string)
  u__law_string : Fun K "_law_string" "_law_string" s_law_string a__law_string d__law_string
  k__law_string : PySem.W.keepIn K (.ref a__law_string) = true
  a__law_told : Addr
  d__law_told : FuncData
  g__law_told : mg "_law_told" = some (.ref a__law_told)
  u__law_told : Fun K "_law_told" "_law_told" s_law_told a__law_told d__law_told
  k__law_told : PySem.W.keepIn K (.ref a__law_told) = true
  a_law : Addr
  d_law : FuncData
  g_law : mg "law" = some (.ref a_law)
  u_law : Fun K "law" "law" slaw a_law d_law
  k_law : PySem.W.keepIn K (.ref a_law) = true
section
variable {P : Program} {w : World} {K : PySem.W.Frag} {mg : Str → Option Value} {base : Heap}
theorem in_InvalidMoment (T : Tx K mg) : FnOk P w K mg base (L2.CX P w) 1 T.ci_InvalidMoment T.di_InvalidMoment ["self", "value"] (spI1 K T.c_InvalidMoment "value") := by
  refine T.u_InvalidMoment.okX scInvalidMoment (fun vs H Q E h => ?_) fun cdv A outer s H vs Q E hr h => ⟨_, pss_one (ps_ost (pv 0) (pv 1)), read_I1 h rfl⟩
  obtain ⟨a, y, rfl, _⟩ := h
  rfl
theorem bi_InvalidMoment (T : Tx K mg) : Binds K T.di_InvalidMoment ["self", "value"] [] := T.u_InvalidMoment.binds fun _ _ _ _ _ _ us hl => match us, hl with | [_, _], _ => rfl
theorem in_InvalidSpan (T : Tx K mg) : FnOk P w K mg base (L2.CX P w) 1 T.ci_InvalidSpan T.di_InvalidSpan ["self", "value"] (spI1 K T.c_InvalidSpan "value") := by
  refine T.u_InvalidSpan.okX scInvalidSpan (fun vs H Q E h => ?_) fun cdv A outer s H vs Q E hr h => ⟨_, pss_one (ps_ost (pv 0) (pv 1)), read_I1 h rfl⟩
  obtain ⟨a, y, rfl, _⟩ := h
  rfl
theorem bi_InvalidSpan (T : Tx K mg) : Binds K T.di_InvalidSpan ["self", "value"] [] := T.u_InvalidSpan.binds fun _ _ _ _ _ _ us hl => match us, hl with | [_, _], _ => rfl
theorem in_InvalidTable (T : Tx K mg) : FnOk P w K mg base (L2.CX P w) 1 T.ci_InvalidTable T.di_InvalidTable ["self", "value"] (spI1 K T.c_InvalidTable "value") := by
  refine T.u_InvalidTable.okX scInvalidTable (fun vs H Q E h => ?_) fun cdv A outer s H vs Q E hr h => ⟨_, pss_one (ps_ost (pv 0) (pv 1)), read_I1 h rfl⟩
  obtain ⟨a, y, rfl, _⟩ := h
  rfl
theorem bi_InvalidTable (T : Tx K mg) : Binds K T.di_InvalidTable ["self", "value"] [] := T.u_InvalidTable.binds fun _ _ _ _ _ _ us hl => match us, hl with | [_, _], _ => rfl
theorem bd_is_whole (T : Tx K mg) : Binds K T.d_is_whole ["value"] [] := T.u_is_whole.binds fun _ _ _ _ _ _ us hl => match us, hl with | [_], _ => rfl
theorem bd_is_tuple_of (T : Tx K mg) : Binds K T.d_is_tuple_of ["size", "value"] [] := T.u_is_tuple_of.binds fun _ _ _ _ _ _ us hl => match us, hl with | [_, _], _ => rfl
theorem bd_is_numeral (T : Tx K mg) : Binds K T.d_is_numeral ["value"] [] := T.u_is_numeral.binds fun _ _ _ _ _ _ us hl => match us, hl with | [_], _ => rfl
theorem bd_is_edge (T : Tx K mg) : Binds K T.d_is_edge ["value"] [] := T.u_is_edge.binds fun _ _ _ _ _ _ us hl => match us, hl with | [_], _ => rfl
theorem bd_is_span (T : Tx K mg) : Binds K T.d_is_span ["value"] [] := T.u_is_span.binds fun _ _ _ _ _ _ us hl => match us, hl with | [_], _ => rfl
theorem bd_has_moment (T : Tx K mg) : Binds K T.d_has_moment ["low", "high"] [] := T.u_has_moment.binds fun _ _ _ _ _ _ us hl => match us, hl with | [_, _], _ => rfl
theorem bd_span_text (T : Tx K mg) : Binds K T.d_span_text ["span"] [] := T.u_span_text.binds fun _ _ _ _ _ _ us hl => match us, hl with | [_], _ => rfl
theorem bd_read_span (T : Tx K mg) : Binds K T.d_read_span ["text"] [] := T.u_read_span.binds fun _ _ _ _ _ _ us hl => match us, hl with | [_], _ => rfl
theorem bd_is_limit_text (T : Tx K mg) : Binds K T.d_is_limit_text ["value"] [] := T.u_is_limit_text.binds fun _ _ _ _ _ _ us hl => match us, hl with | [_], _ => rfl
theorem bd_span_in_text (T : Tx K mg) : Binds K T.d_span_in_text ["text"] [] := T.u_span_in_text.binds fun _ _ _ _ _ _ us hl => match us, hl with | [_], _ => rfl
theorem bd__law_box (T : Tx K mg) : Binds K T.d__law_box ["script"] [] := T.u__law_box.binds fun _ _ _ _ _ _ us hl => match us, hl with | [_], _ => rfl
theorem bd__law_draw (T : Tx K mg) : Binds K T.d__law_draw ["box", "size"] [] := T.u__law_draw.binds fun _ _ _ _ _ _ us hl => match us, hl with | [_, _], _ => rfl
theorem bd__law_pick (T : Tx K mg) : Binds K T.d__law_pick ["box", "row"] [] := T.u__law_pick.binds fun _ _ _ _ _ _ us hl => match us, hl with | [_, _], _ => rfl
theorem bd__law_same (T : Tx K mg) : Binds K T.d__law_same ["actual", "due"] [] := T.u__law_same.binds fun _ _ _ _ _ _ us hl => match us, hl with | [_, _], _ => rfl
theorem bd__law_limit (T : Tx K mg) : Binds K T.d__law_limit ["box"] [] := T.u__law_limit.binds fun _ _ _ _ _ _ us hl => match us, hl with | [_], _ => rfl
theorem bd__law_span (T : Tx K mg) : Binds K T.d__law_span ["box"] [] := T.u__law_span.binds fun _ _ _ _ _ _ us hl => match us, hl with | [_], _ => rfl
theorem bd__law_text (T : Tx K mg) : Binds K T.d__law_text ["pair"] [] := T.u__law_text.binds fun _ _ _ _ _ _ us hl => match us, hl with | [_], _ => rfl
theorem bd__law_digits (T : Tx K mg) : Binds K T.d__law_digits ["word"] [] := T.u__law_digits.binds fun _ _ _ _ _ _ us hl => match us, hl with | [_], _ => rfl
theorem bd__law_meant (T : Tx K mg) : Binds K T.d__law_meant ["text"] [] := T.u__law_meant.binds fun _ _ _ _ _ _ us hl => match us, hl with | [_], _ => rfl
theorem bd__law_bent (T : Tx K mg) : Binds K T.d__law_bent ["box", "text"] [] := T.u__law_bent.binds fun _ _ _ _ _ _ us hl => match us, hl with | [_, _], _ => rfl
theorem bd__law_odd (T : Tx K mg) : Binds K T.d__law_odd ["box"] [] := T.u__law_odd.binds fun _ _ _ _ _ _ us hl => match us, hl with | [_], _ => rfl
theorem bd__law_long (T : Tx K mg) : Binds K T.d__law_long ["box", "size"] [] := T.u__law_long.binds fun _ _ _ _ _ _ us hl => match us, hl with | [_, _], _ => rfl
theorem bd__law_wide_text (T : Tx K mg) : Binds K T.d__law_wide_text ["box"] [] := T.u__law_wide_text.binds fun _ _ _ _ _ _ us hl => match us, hl with | [_], _ => rfl
theorem bd__law_string (T : Tx K mg) : Binds K T.d__law_string ["box", "text"] [] := T.u__law_string.binds fun _ _ _ _ _ _ us hl => match us, hl with | [_, _], _ => rfl
theorem bd__law_told (T : Tx K mg) : Binds K T.d__law_told ["text"] [] := T.u__law_told.binds fun _ _ _ _ _ _ us hl => match us, hl with | [_], _ => rfl
theorem bd_law (T : Tx K mg) : Binds K T.d_law ["script"] [] := T.u_law.binds fun _ _ _ _ _ _ us hl => match us, hl with | [_], _ => rfl
theorem ok_is_whole (T : Tx K mg) : FnZ P w K mg base 1 T.a_is_whole T.d_is_whole ["value"] Fis_whole := by
  exact fn_ok T.u_is_whole (k := 0) scis_whole (by decide) fun cdv A outer s H E hr tk =>
    ss_one (s_ret (e_and (e_isi .int rfl (by rfl) T.b_isinstance (by rfl) T.b_int (ev 0)) (e_one (e_not (e_isi .bool rfl (by rfl) T.b_isinstance (by rfl) T.b_bool (ev 0))))))
theorem ok_is_tuple_of (T : Tx K mg) : FnZ P w K mg base 1 T.a_is_tuple_of T.d_is_tuple_of ["size", "value"] Fis_tuple_of := by
  exact fn_ok T.u_is_tuple_of (k := 0) scis_tuple_of (by decide) fun cdv A outer s H E hr tk =>
    ss_one (s_ret (e_and (e_isi .tup rfl (by rfl) T.b_isinstance (by rfl) T.b_tuple (ev 1)) (e_one (e_cmp (oEq hr.units) sEq (e_cb call_len sLen (by rfl) T.b_len (by decide +kernel) (a_cons (ev 1) (a_nil))) (ev 0)))))
theorem ok_is_numeral (T : Tx K mg) : FnZ P w K mg base 1 T.a_is_numeral T.d_is_numeral ["value"] Fis_numeral := by
  exact fn_ok T.u_is_numeral (k := 0) scis_numeral (by decide) fun cdv A outer s H E hr tk =>
    ss_cons (s_if (t_not (t_B (e_isi .str rfl (by rfl) T.b_isinstance (by rfl) T.b_str (ev 0)))) (ss_one (s_ret (ec_bl))) (ss_nil)) (ss_cons (s_if (t_not (PW.pt (w_and (t_B (e_bm0 .str PySem.F.plainAttrs_str PySem.F.slot_str_isascii PySem.F.type_str_isascii mt_isascii sIsasc (ev 0))) (w_and1 (t_B (e_bm0 .str PySem.F.plainAttrs_str PySem.F.slot_str_isdigit PySem.F.type_str_isdigit mt_isdigit sIsdig (ev 0))))))) (ss_one (s_ret (ec_bl))) (ss_nil)) (ss_one (s_ret (e_or (e_cmp (oEq hr.units) sEq (ev 0) (ec_str)) (e_one (e_not (e_bm .str PySem.F.plainAttrs_str PySem.F.slot_str_startswith PySem.F.type_str_startswith mt_startswith sStarts (ev 0) (a_cons (ec_str) (a_nil)))))))))
theorem ok_is_edge (T : Tx K mg) : FnZ P w K mg base 2 T.a_is_edge T.d_is_edge ["value"] Fis_edge := by
  have G_is_tuple_of := ok_is_tuple_of (P := P) (w := w) (base := base) T
  have G_is_whole := ok_is_whole (P := P) (w := w) (base := base) T
  exact fn_ok T.u_is_edge (k := 1) scis_edge (by decide) fun cdv A outer s H E hr tk =>
    ss_cons (s_if (t_not (t_B (e_call G_is_tuple_of (hr.mono (by omega)) T.g_is_tuple_of T.k_is_tuple_of (bd_is_tuple_of T) .nil .nil tk (a_cons (ec_int) (a_cons (ev 0) (a_nil)))))) (ss_one (s_ret (ec_bl))) (ss_nil)) (ss_cons (s_asg (ev 0) (g_t rfl (gs_cons (g_n 1 scis_edge.nd) (gs_cons (g_n 2 scis_edge.nd) (gs_nil))))) (ss_one (s_ret (e_and (e_call G_is_whole (hr.mono (by omega)) T.g_is_whole T.k_is_whole (bd_is_whole T) .nil .nil tk (a_cons (ev 1) (a_nil))) (e_and (e_call G_is_whole (hr.mono (by omega)) T.g_is_whole T.k_is_whole (bd_is_whole T) .nil .nil tk (a_cons (ev 2) (a_nil))) (e_one (e_cmp oInT sInT (ev 2) (e_tup (a_cons (ec_int) (a_cons (ec_int) (a_nil)))) (by rfl))))))))
theorem ok_has_moment (T : Tx K mg) : FnZ P w K mg base 1 T.a_has_moment T.d_has_moment ["low", "high"] Fhas_moment := by
  exact fn_ok T.u_has_moment (k := 0) schas_moment (by decide) fun cdv A outer s H E hr tk =>
    ss_cons (s_if (PW.pt (w_or (t_isN (ev 1)) (w_or1 (t_cmp op_gt sGt (e_ix ix_seq sIx (ev 1) (ec_int)) (e_ix ix_seq sIx (ev 0) (ec_int)))))) (ss_one (s_ret (ec_bl))) (ss_nil)) (ss_one (s_ret (e_and (e_cmp (oEq hr.units) sEq (e_ix ix_seq sIx (ev 1) (ec_int)) (e_ix ix_seq sIx (ev 0) (ec_int))) (e_and (e_cmp (oEq hr.units) sEq (e_ix ix_seq sIx (ev 1) (ec_int)) (ec_int)) (e_one (e_cmp (oEq hr.units) sEq (e_ix ix_seq sIx (ev 0) (ec_int)) (ec_int)))))))
theorem ok_is_span (T : Tx K mg) : FnZ P w K mg base 3 T.a_is_span T.d_is_span ["value"] Fis_span := by
  have G_has_moment := ok_has_moment (P := P) (w := w) (base := base) T
  have G_is_edge := ok_is_edge (P := P) (w := w) (base := base) T
  have G_is_tuple_of := ok_is_tuple_of (P := P) (w := w) (base := base) T
  exact fn_ok T.u_is_span (k := 2) scis_span (by decide) fun cdv A outer s H E hr tk =>
    ss_cons (s_if (t_not (t_B (e_call G_is_tuple_of (hr.mono (by omega)) T.g_is_tuple_of T.k_is_tuple_of (bd_is_tuple_of T) .nil .nil tk (a_cons (ec_int) (a_cons (ev 0) (a_nil)))))) (ss_one (s_ret (ec_bl))) (ss_nil)) (ss_cons (s_asg (ev 0) (g_t rfl (gs_cons (g_n 1 scis_span.nd) (gs_cons (g_n 2 scis_span.nd) (gs_nil))))) (ss_cons (s_if (t_not (PW.pt (w_and (t_B (e_call G_is_edge (hr.mono (by omega)) T.g_is_edge T.k_is_edge (bd_is_edge T) .nil .nil tk (a_cons (ev 1) (a_nil)))) (w_and1 (t_cmp op_ge sGe (e_ix ix_seq sIx (ev 1) (ec_int)) (ec_int)))))) (ss_one (s_ret (ec_bl))) (ss_nil)) (ss_one (s_ret (e_or (e_isN (ev 2)) (e_one (e_and (e_call G_is_edge (hr.mono (by omega)) T.g_is_edge T.k_is_edge (bd_is_edge T) .nil .nil tk (a_cons (ev 2) (a_nil))) (e_one (e_call G_has_moment (hr.mono (by omega)) T.g_has_moment T.k_has_moment (bd_has_moment T) .nil .nil tk (a_cons (ev 1) (a_cons (ev 2) (a_nil))))))))))))
theorem ok_span_text (T : Tx K mg) : FnZ P w K mg base 1 T.a_span_text T.d_span_text ["span"] Fspan_text := by
  exact fn_ok T.u_span_text (k := 0) scspan_text (by decide) fun cdv A outer s H E hr tk =>
    ss_cons (s_asg (ev 0) (g_t rfl (gs_cons (g_n 1 scspan_text.nd) (gs_cons (g_n 2 scspan_text.nd) (gs_nil))))) (ss_cons (s_set (i := 3) scspan_text.nd (e_if (t_cmp (oEq hr.units) sEq (e_ix ix_seq sIx (ev 1) (ec_int)) (ec_int)) (ec_str) (ec_str))) (ss_cons (s_if (t_isN (ev 2)) (ss_one (s_ret (e_joined (j_cons (e_fmt (ev 3)) (j_cons (e_fmt (e_ix ix_seq sIx (ev 1) (ec_int))) (j_cons (ec_str) (j_nil))))))) (ss_nil)) (ss_cons (s_set (i := 4) scspan_text.nd (e_if (t_cmp (oEq hr.units) sEq (e_ix ix_seq sIx (ev 2) (ec_int)) (ec_int)) (ec_str) (ec_str))) (ss_one (s_ret (e_joined (j_cons (e_fmt (ev 3)) (j_cons (e_fmt (e_ix ix_seq sIx (ev 1) (ec_int))) (j_cons (ec_str) (j_cons (e_fmt (e_ix ix_seq sIx (ev 2) (ec_int))) (j_cons (e_fmt (ev 4)) (j_nil))))))))))))
theorem ok_is_limit_text (T : Tx K mg) : FnZ P w K mg base 2 T.a_is_limit_text T.d_is_limit_text ["value"] Fis_limit_text := by
  have G_is_numeral := ok_is_numeral (P := P) (w := w) (base := base) T
  exact fn_ok T.u_is_limit_text (k := 1) scis_limit_text (by decide) fun cdv A outer s H E hr tk =>
    ss_one (s_ret (e_and (e_call G_is_numeral (hr.mono (by omega)) T.g_is_numeral T.k_is_numeral (bd_is_numeral T) .nil .nil tk (a_cons (ev 0) (a_nil))) (e_one (e_cmp op_le sLe (e_cb call_len sLen (by rfl) T.b_len (by decide +kernel) (a_cons (ev 0) (a_nil))) (e_glob (v := L2.V.int 9) (by rfl) T.v_MOST_DIGITS ⟨_, rfl⟩ (fun _ _ => .int _))))))
theorem ok_span_in_text (T : Tx K mg) : FnZ P w K mg base 4 T.a_span_in_text T.d_span_in_text ["text"] Fspan_in_text := by
  have G_is_limit_text := ok_is_limit_text (P := P) (w := w) (base := base) T
  have G_is_span := ok_is_span (P := P) (w := w) (base := base) T
  exact fn_ok T.u_span_in_text (k := 3) scspan_in_text (by decide) fun cdv A outer s H E hr tk =>
    ss_cons (s_par (i := 1) (j := 2) rfl scspan_in_text.nd (by decide) (a_cons (e_sl false (ev 0) (o_none) (o_some (ec_int))) (a_cons (e_sl false (ev 0) (o_some (e_un un_neg sNeg (ec_int))) (o_none)) (a_nil)))) (ss_cons (s_asg (e_bm .str PySem.F.plainAttrs_str PySem.F.slot_str_partition PySem.F.type_str_partition mt_partition sPart (e_sl false (ev 0) (o_some (ec_int)) (o_some (e_un un_neg sNeg (ec_int)))) (a_cons (ec_str) (a_nil))) (g_t rfl (gs_cons (g_n 3 scspan_in_text.nd) (gs_cons (g_n 4 scspan_in_text.nd) (gs_cons (g_n 5 scspan_in_text.nd) (gs_nil)))))) (ss_cons (s_if (PW.pt (w_or (t_cmp oNotInT sInT (ev 1) (e_tup (a_cons (ec_str) (a_cons (ec_str) (a_nil)))) (by rfl)) (w_or (t_cmp (oEq hr.units) sEq (ev 4) (ec_str)) (w_or1 (t_not (t_B (e_call G_is_limit_text (hr.mono (by omega)) T.g_is_limit_text T.k_is_limit_text (bd_is_limit_text T) .nil .nil tk (a_cons (ev 3) (a_nil))))))))) (ss_one (s_ret (ec_non))) (ss_nil)) (ss_cons (s_set (i := 6) scspan_in_text.nd (e_tup (a_cons (e_ct cr_intT sIntT (by rfl) T.b_int (by decide +kernel) (a_cons (ev 3) (a_nil))) (a_cons (e_if (t_cmp (oEq hr.units) sEq (ev 1) (ec_str)) (ec_int) (ec_int)) (a_nil))))) (ss_cons (s_if (t_cmp (oEq hr.units) sEq (ev 5) (ec_str)) (ss_one (s_ret (e_if (t_cmp (oEq hr.units) sEq (ev 2) (ec_str)) (e_tup (a_cons (ev 6) (a_cons (ec_non) (a_nil)))) (ec_non)))) (ss_nil)) (ss_cons (s_if (PW.pt (w_or (t_cmp oNotInT sInT (ev 2) (e_tup (a_cons (ec_str) (a_cons (ec_str) (a_nil)))) (by rfl)) (w_or1 (t_not (t_B (e_call G_is_limit_text (hr.mono (by omega)) T.g_is_limit_text T.k_is_limit_text (bd_is_limit_text T) .nil .nil tk (a_cons (ev 5) (a_nil)))))))) (ss_one (s_ret (ec_non))) (ss_nil)) (ss_cons (s_set (i := 7) scspan_in_text.nd (e_tup (a_cons (ev 6) (a_cons (e_tup (a_cons (e_ct cr_intT sIntT (by rfl) T.b_int (by decide +kernel) (a_cons (ev 5) (a_nil))) (a_cons (e_if (t_cmp (oEq hr.units) sEq (ev 2) (ec_str)) (ec_int) (ec_int)) (a_nil)))) (a_nil))))) (ss_one (s_ret (e_if (t_B (e_call G_is_span (hr.mono (by omega)) T.g_is_span T.k_is_span (bd_is_span T) .nil .nil tk (a_cons (ev 7) (a_nil)))) (ev 7) (ec_non))))))))))
theorem ok_read_span (T : Tx K mg) : FnZ P w K mg base 5 T.a_read_span T.d_read_span ["text"] Fread_span := by
  have G_span_in_text := ok_span_in_text (P := P) (w := w) (base := base) T
  exact fn_ok T.u_read_span (k := 4) scread_span (by decide) fun cdv A outer s H E hr tk =>
    ss_cons (s_set (i := 1) scread_span.nd (e_call G_span_in_text (hr.mono (by omega)) T.g_span_in_text T.k_span_in_text (bd_span_in_text T) .nil .nil tk (a_cons (ev 0) (a_nil)))) (ss_cons (s_if (t_isN (ev 1)) (ss_one (s_raise1 T.e_InvalidSpan T.i_InvalidSpan T.t_InvalidSpan (in_InvalidSpan T) (hr.mono (by omega)) (bi_InvalidSpan T) tk (a_cons (ev 0) (a_nil)))) (ss_nil)) (ss_one (s_ret (ev 1))))
theorem ok__law_box (T : Tx K mg) : FnZ P w K mg base 1 T.a__law_box T.d__law_box ["script"] F_law_box := by
  exact fn_ok T.u__law_box (k := 0) sc_law_box (by decide) fun cdv A outer s H E hr tk =>
    ss_cons (s_set (i := 1) sc_law_box.nd (e_lst true (a_nil))) (ss_cons (s_set (i := 2) sc_law_box.nd (e_op oPlus sPlus (ec_int) (e_cb call_len sLen (by rfl) T.b_len (by decide +kernel) (a_cons (e_sl false (ev 0) (o_none) (o_some (ec_int))) (a_nil))))) (ss_cons (s_for rfl (i_any (e_sl false (ev 0) (o_none) (o_some (ec_int)))) (g_n 3 sc_law_box.nd) (ss_one (s_if (t_cmp op_ge sGe (ev 3) (e_op op_pow sPow (ec_int) (ec_int))) (ss_one (s_expr (e_bm .list PySem.F.plainAttrs_list PySem.F.slot_list_append PySem.F.type_list_append mt_append sApp (ev 1) (a_cons (ev 3) (a_nil))))) (ss_one (s_set (i := 2) sc_law_box.nd (e_op op_mod sMod (e_ct cr_intT sIntT (by rfl) T.b_int (by decide +kernel) (a_cons (e_op oPlus sPlus (e_op oPlus sPlus (e_op oMul sMul (ev 2) (ec_int)) (e_op oMul sMul (ev 3) (ec_int))) (ec_int)) (a_nil))) (ec_int)))))) (passes_of rfl)) (ss_cons (s_expr (e_bm0 .list PySem.F.plainAttrs_list PySem.F.slot_list_reverse PySem.F.type_list_reverse mt_reverse sRevM (ev 1))) (ss_one (s_ret (e_lst true (a_cons (ec_int) (a_cons (ev 1) (a_cons (ev 2) (a_cons (ec_int) (a_nil)))))))))))
theorem ok__law_draw (T : Tx K mg) : FnZ P w K mg base 1 T.a__law_draw T.d__law_draw ["box", "size"] F_law_draw := by
  exact fn_ok T.u__law_draw (k := 0) sc_law_draw (by decide) fun cdv A outer s H E hr tk =>
    ss_cons (s_if (PW.pt (w_and (t_cmp op_lt sLt (e_ix ix_seq sIx (ev 0) (ec_int)) (ec_int)) (w_and1 (t_cmp (oNe hr.units) sNe (e_ix ix_seq sIx (ev 0) (ec_int)) (e_lst false (a_nil)))))) (ss_one (s_put (pg_sub (ev 0) (ec_int) set_list) (e_bm0 .list PySem.F.plainAttrs_list PySem.F.slot_list_pop PySem.F.type_list_pop mt_pop sPop (e_ix ix_seq sIx (ev 0) (ec_int))) rfl)) (ss_nil)) (ss_cons (s_if (t_cmp op_gt sGt (e_ix ix_seq sIx (ev 0) (ec_int)) (ec_int)) (ss_cons (s_set (i := 2) sc_law_draw.nd (e_op op_mod sMod (e_ct cr_intT sIntT (by rfl) T.b_int (by decide +kernel) (a_cons (e_ix ix_seq sIx (ev 0) (ec_int)) (a_nil))) (ev 1))) (ss_cons (s_put (pg_sub (ev 0) (ec_int) set_list) (e_op op_fdivW sDiv (e_ix ix_seq sIx (ev 0) (ec_int)) (ev 1)) rfl) (ss_one (s_ret (ev 2))))) (ss_nil)) (ss_cons (s_put (pg_sub (ev 0) (ec_int) set_list) (e_op oPlus sPlus (e_ix ix_seq sIx (ev 0) (ec_int)) (ec_int)) rfl) (ss_cons (s_put (pg_sub (ev 0) (ec_int) set_list) (e_op op_mod sMod (e_ct cr_intT sIntT (by rfl) T.b_int (by decide +kernel) (a_cons (e_op oPlus sPlus (e_op oPlus sPlus (e_op oMul sMul (e_ix ix_seq sIx (ev 0) (ec_int)) (ec_int)) (e_op oMul sMul (e_ix ix_seq sIx (ev 0) (ec_int)) (ec_int))) (ec_int)) (a_nil))) (ec_int)) rfl) (ss_cons (s_set (i := 3) sc_law_draw.nd (e_op op_mod sMod (e_ct cr_intT sIntT (by rfl) T.b_int (by decide +kernel) (a_cons (e_op oPlus sPlus (e_op oPlus sPlus (e_op oMul sMul (e_ix ix_seq sIx (ev 0) (ec_int)) (ec_int)) (e_op oMul sMul (e_ix ix_seq sIx (ev 0) (ec_int)) (ec_int))) (ec_int)) (a_nil))) (ec_int))) (ss_one (s_ret (e_op op_mod sMod (e_op op_fdivW sDiv (ev 3) (ec_int)) (ev 1))))))))
theorem ok__law_pick (T : Tx K mg) : FnZ P w K mg base 2 T.a__law_pick T.d__law_pick ["box", "row"] F_law_pick := by
  have G__law_draw := ok__law_draw (P := P) (w := w) (base := base) T
  exact fn_ok T.u__law_pick (k := 1) sc_law_pick (by decide) fun cdv A outer s H E hr tk =>
    ss_one (s_ret (e_ix ix_seq sIx (ev 1) (e_call G__law_draw (hr.mono (by omega)) T.g__law_draw T.k__law_draw (bd__law_draw T) .nil .nil tk (a_cons (ev 0) (a_cons (e_cb call_len sLen (by rfl) T.b_len (by decide +kernel) (a_cons (ev 1) (a_nil))) (a_nil))))))
theorem ok__law_same (T : Tx K mg) : ∀ n : Nat, FnZ P w K mg base (1 + n) T.a__law_same T.d__law_same ["actual", "due"] (F_law_same n)
  | 0 => fn_bad
  | n + 1 => by
    have G__law_same := ok__law_same T n
    exact fn_ok T.u__law_same (k := 1 + n) sc_law_same (by decide) fun cdv A outer s H E hr tk =>
      ss_cons (s_if (t_isN (ev 1)) (ss_one (s_ret (e_isN (ev 0)))) (ss_nil)) (ss_cons (s_if (t_isB (ev 1)) (ss_one (s_ret (e_isB (ev 0)))) (ss_nil)) (ss_cons (s_if (t_isB (ev 1)) (ss_one (s_ret (e_isB (ev 0)))) (ss_nil)) (ss_cons (s_if (t_B (e_isi .tup rfl (by rfl) T.b_isinstance (by rfl) T.b_tuple (ev 1))) (ss_cons (s_if (PW.pt (w_or (t_not (t_B (e_isi .tup rfl (by rfl) T.b_isinstance (by rfl) T.b_tuple (ev 0)))) (w_or1 (t_cmp (oNe hr.units) sNe (e_cb call_len sLen (by rfl) T.b_len (by decide +kernel) (a_cons (ev 0) (a_nil))) (e_cb call_len sLen (by rfl) T.b_len (by decide +kernel) (a_cons (ev 1) (a_nil))))))) (ss_one (s_ret (ec_bl))) (ss_nil)) (ss_one (s_ret (e_cb (cr_all rfl) sAll (by rfl) T.b_all (by decide +kernel) (a_cons (e_lc (own := [("k", 2)]) false rfl sc_law_same.nd (i_rng1 (by rfl) T.b_range (a_cons (e_cb call_len sLen (by rfl) T.b_len (by decide +kernel) (a_cons (ev 1) (a_nil))) (a_nil))) (blkOk_by (N := N_law_same) (sc := defScope s_law_same) (by decide +kernel)) (fun _ _ _ _ _ => by exact g_n 2 sc_law_same.nd) (fun _ _ _ _ _ => by exact ts_nil) (fun _ _ _ _ _ => by exact e_call G__law_same (hr.mono (by omega)) T.g__law_same T.k__law_same (bd__law_same T) .nil .nil takes0 (a_cons (e_ix ix_seq sIx (ev 0) (ev 2)) (a_cons (e_ix ix_seq sIx (ev 1) (ev 2)) (a_nil)))) (by decide)) a_nil))))) (ss_nil)) (ss_cons (s_if (t_B (e_isi .str rfl (by rfl) T.b_isinstance (by rfl) T.b_str (ev 1))) (ss_one (s_ret (e_and (e_isi .str rfl (by rfl) T.b_isinstance (by rfl) T.b_str (ev 0)) (e_one (e_cmp (oEq hr.units) sEq (ev 0) (ev 1)))))) (ss_nil)) (ss_one (s_ret (e_and (e_isi .int rfl (by rfl) T.b_isinstance (by rfl) T.b_int (ev 0)) (e_and (e_not (e_isi .bool rfl (by rfl) T.b_isinstance (by rfl) T.b_bool (ev 0))) (e_one (e_cmp (oEq hr.units) sEq (ev 0) (ev 1)))))))))))
theorem ok__law_limit (T : Tx K mg) : FnZ P w K mg base 3 T.a__law_limit T.d__law_limit ["box"] F_law_limit := by
  have G__law_draw := ok__law_draw (P := P) (w := w) (base := base) T
  have G__law_pick := ok__law_pick (P := P) (w := w) (base := base) T
  exact fn_ok T.u__law_limit (k := 2) sc_law_limit (by decide) fun cdv A outer s H E hr tk =>
    ss_one (s_ret (e_call G__law_draw (hr.mono (by omega)) T.g__law_draw T.k__law_draw (bd__law_draw T) .nil .nil tk (a_cons (ev 0) (a_cons (e_call G__law_pick (hr.mono (by omega)) T.g__law_pick T.k__law_pick (bd__law_pick T) .nil .nil tk (a_cons (ev 0) (a_cons (e_lst false (a_cons (ec_int) (a_cons (ec_int) (a_cons (ec_int) (a_cons (ec_int) (a_nil)))))) (a_nil)))) (a_nil)))))
theorem ok__law_span (T : Tx K mg) : FnZ P w K mg base 4 T.a__law_span T.d__law_span ["box"] F_law_span := by
  have G__law_draw := ok__law_draw (P := P) (w := w) (base := base) T
  have G__law_limit := ok__law_limit (P := P) (w := w) (base := base) T
  have G__law_pick := ok__law_pick (P := P) (w := w) (base := base) T
  exact fn_ok T.u__law_span (k := 3) sc_law_span (by decide) fun cdv A outer s H E hr tk =>
    ss_cons (s_set (i := 1) sc_law_span.nd (e_call G__law_limit (hr.mono (by omega)) T.g__law_limit T.k__law_limit (bd__law_limit T) .nil .nil tk (a_cons (ev 0) (a_nil)))) (ss_cons (s_set (i := 2) sc_law_span.nd (e_call G__law_draw (hr.mono (by omega)) T.g__law_draw T.k__law_draw (bd__law_draw T) .nil .nil tk (a_cons (ev 0) (a_cons (ec_int) (a_nil))))) (ss_cons (s_set (i := 3) sc_law_span.nd (e_call G__law_draw (hr.mono (by omega)) T.g__law_draw T.k__law_draw (bd__law_draw T) .nil .nil tk (a_cons (ev 0) (a_cons (ec_int) (a_nil))))) (ss_cons (s_if (t_cmp (oEq hr.units) sEq (ev 3) (ec_int)) (ss_one (s_ret (e_tup (a_cons (e_tup (a_cons (ev 1) (a_cons (ev 2) (a_nil)))) (a_cons (ec_non) (a_nil)))))) (ss_nil)) (ss_cons (s_if (PW.pt (w_or (t_cmp (oEq hr.units) sEq (ev 3) (ec_int)) (w_or1 (t_cmp (oEq hr.units) sEq (ev 1) (ec_int))))) (ss_one (s_ret (e_tup (a_cons (e_tup (a_cons (ev 1) (a_cons (ec_int) (a_nil)))) (a_cons (e_tup (a_cons (ev 1) (a_cons (ec_int) (a_nil)))) (a_nil)))))) (ss_nil)) (ss_cons (s_set (i := 4) sc_law_span.nd (e_cb (call_min2 rfl) sMin2 (by rfl) T.b_min (by decide +kernel) (a_cons (ec_int) (a_cons (e_op oPlus sPlus (e_op oPlus sPlus (ev 1) (ec_int)) (e_call G__law_draw (hr.mono (by omega)) T.g__law_draw T.k__law_draw (bd__law_draw T) .nil .nil tk (a_cons (ev 0) (a_cons (e_call G__law_pick (hr.mono (by omega)) T.g__law_pick T.k__law_pick (bd__law_pick T) .nil .nil tk (a_cons (ev 0) (a_cons (e_lst false (a_cons (ec_int) (a_cons (ec_int) (a_cons (ec_int) (a_cons (ec_int) (a_nil)))))) (a_nil)))) (a_nil))))) (a_nil))))) (ss_one (s_ret (e_tup (a_cons (e_tup (a_cons (ev 1) (a_cons (ev 2) (a_nil)))) (a_cons (e_tup (a_cons (ev 4) (a_cons (e_call G__law_draw (hr.mono (by omega)) T.g__law_draw T.k__law_draw (bd__law_draw T) .nil .nil tk (a_cons (ev 0) (a_cons (ec_int) (a_nil)))) (a_nil)))) (a_nil)))))))))))
theorem ok__law_text (T : Tx K mg) : FnZ P w K mg base 1 T.a__law_text T.d__law_text ["pair"] F_law_text := by
  exact fn_ok T.u__law_text (k := 0) sc_law_text (by decide) fun cdv A outer s H E hr tk =>
    ss_cons (s_set (i := 1) sc_law_text.nd (e_op oPlus sPlus (e_op oPlus sPlus (e_ix ix_seq sIx (ec_str) (e_ix ix_seq sIx (e_ix ix_seq sIx (ev 0) (ec_int)) (ec_int))) (e_ct cr_str sStr (by rfl) T.b_str (by decide +kernel) (a_cons (e_ix ix_seq sIx (e_ix ix_seq sIx (ev 0) (ec_int)) (ec_int)) (a_nil)))) (ec_str))) (ss_cons (s_if (t_isN (e_ix ix_seq sIx (ev 0) (ec_int))) (ss_one (s_ret (e_op oPlus sPlus (ev 1) (ec_str)))) (ss_nil)) (ss_one (s_ret (e_op oPlus sPlus (e_op oPlus sPlus (ev 1) (e_ct cr_str sStr (by rfl) T.b_str (by decide +kernel) (a_cons (e_ix ix_seq sIx (e_ix ix_seq sIx (ev 0) (ec_int)) (ec_int)) (a_nil)))) (e_ix ix_seq sIx (ec_str) (e_ix ix_seq sIx (e_ix ix_seq sIx (ev 0) (ec_int)) (ec_int)))))))
theorem ok__law_digits (T : Tx K mg) : FnZ P w K mg base 1 T.a__law_digits T.d__law_digits ["word"] F_law_digits := by
  exact fn_ok T.u__law_digits (k := 0) sc_law_digits (by decide) fun cdv A outer s H E hr tk =>
    ss_cons (s_if (PW.pt (w_or (t_cmp (oEq hr.units) sEq (ev 0) (ec_str)) (w_or (t_cmp op_gt sGt (e_cb call_len sLen (by rfl) T.b_len (by decide +kernel) (a_cons (ev 0) (a_nil))) (ec_int)) (w_or1 (PW.pt (w_and (t_cmp op_gt sGt (e_cb call_len sLen (by rfl) T.b_len (by decide +kernel) (a_cons (ev 0) (a_nil))) (ec_int)) (w_and1 (t_cmp (oEq hr.units) sEq (e_ix ix_seq sIx (ev 0) (ec_int)) (ec_str))))))))) (ss_one (s_ret (ec_bl))) (ss_nil)) (ss_one (s_ret (e_cb (cr_all rfl) sAll (by rfl) T.b_all (by decide +kernel) (a_cons (e_lc (own := [("sign", 1)]) false rfl sc_law_digits.nd (i_any (ev 0)) (blkOk_by (N := N_law_digits) (sc := defScope s_law_digits) (by decide +kernel)) (fun _ _ _ _ _ => by exact g_n 1 sc_law_digits.nd) (fun _ _ _ _ _ => by exact ts_nil) (fun _ _ _ _ _ => by exact e_cmp oInT sInT (ev 1) (ec_str) (by rfl)) (by decide)) a_nil))))
theorem ok__law_meant (T : Tx K mg) : FnZ P w K mg base 2 T.a__law_meant T.d__law_meant ["text"] F_law_meant := by
  have G__law_digits := ok__law_digits (P := P) (w := w) (base := base) T
  exact fn_ok T.u__law_meant (k := 1) sc_law_meant (by decide) fun cdv A outer s H E hr tk =>
    ss_cons (s_if (PW.pt (w_or (t_cmp op_lt sLt (e_cb call_len sLen (by rfl) T.b_len (by decide +kernel) (a_cons (ev 0) (a_nil))) (ec_int)) (w_or (t_cmp oNotInT sInT (e_ix ix_seq sIx (ev 0) (ec_int)) (ec_str) (by rfl)) (w_or1 (t_cmp oNotInT sInT (e_ix ix_seq sIx (ev 0) (e_un un_neg sNeg (ec_int))) (ec_str) (by rfl)))))) (ss_one (s_ret (ec_non))) (ss_nil)) (ss_cons (s_set (i := 1) sc_law_meant.nd (e_bm .str PySem.F.plainAttrs_str PySem.F.slot_str_find PySem.F.type_str_find mt_find sFind (ev 0) (a_cons (ec_str) (a_nil)))) (ss_cons (s_if (t_cmp op_lt sLt (ev 1) (ec_int)) (ss_one (s_ret (ec_non))) (ss_nil)) (ss_cons (s_set (i := 2) sc_law_meant.nd (e_sl false (ev 0) (o_some (ec_int)) (o_some (ev 1)))) (ss_cons (s_set (i := 3) sc_law_meant.nd (e_sl false (ev 0) (o_some (e_op oPlus sPlus (ev 1) (ec_int))) (o_some (e_un un_neg sNeg (ec_int))))) (ss_cons (s_if (t_not (t_B (e_call G__law_digits (hr.mono (by omega)) T.g__law_digits T.k__law_digits (bd__law_digits T) .nil .nil tk (a_cons (ev 2) (a_nil))))) (ss_one (s_ret (ec_non))) (ss_nil)) (ss_cons (s_set (i := 4) sc_law_meant.nd (e_tup (a_cons (e_ct cr_intT sIntT (by rfl) T.b_int (by decide +kernel) (a_cons (ev 2) (a_nil))) (a_cons (e_ct cr_intT sIntT (by rfl) T.b_int (by decide +kernel) (a_cons (e_cmp (oEq hr.units) sEq (e_ix ix_seq sIx (ev 0) (ec_int)) (ec_str)) (a_nil))) (a_nil))))) (ss_cons (s_if (t_cmp (oEq hr.units) sEq (ev 3) (ec_str)) (ss_cons (s_if (t_cmp (oEq hr.units) sEq (e_ix ix_seq sIx (ev 0) (e_un un_neg sNeg (ec_int))) (ec_str)) (ss_one (s_ret (ec_non))) (ss_nil)) (ss_one (s_ret (e_tup (a_cons (ev 4) (a_cons (ec_non) (a_nil))))))) (ss_nil)) (ss_cons (s_if (t_not (t_B (e_call G__law_digits (hr.mono (by omega)) T.g__law_digits T.k__law_digits (bd__law_digits T) .nil .nil tk (a_cons (ev 3) (a_nil))))) (ss_one (s_ret (ec_non))) (ss_nil)) (ss_cons (s_set (i := 5) sc_law_meant.nd (e_tup (a_cons (e_ct cr_intT sIntT (by rfl) T.b_int (by decide +kernel) (a_cons (ev 3) (a_nil))) (a_cons (e_ct cr_intT sIntT (by rfl) T.b_int (by decide +kernel) (a_cons (e_cmp (oEq hr.units) sEq (e_ix ix_seq sIx (ev 0) (e_un un_neg sNeg (ec_int))) (ec_str)) (a_nil))) (a_nil))))) (ss_cons (s_if (PW.pt (w_or (t_cmp op_lt sLt (e_ix ix_seq sIx (ev 5) (ec_int)) (e_ix ix_seq sIx (ev 4) (ec_int))) (w_or1 (PW.pt (w_and (t_cmp (oEq hr.units) sEq (e_ix ix_seq sIx (ev 5) (ec_int)) (e_ix ix_seq sIx (ev 4) (ec_int))) (w_and1 (t_cmp op_lt sLt (e_op oPlus sPlus (e_ix ix_seq sIx (ev 4) (ec_int)) (e_ix ix_seq sIx (ev 5) (ec_int))) (ec_int)))))))) (ss_one (s_ret (ec_non))) (ss_nil)) (ss_one (s_ret (e_tup (a_cons (ev 4) (a_cons (ev 5) (a_nil))))))))))))))))
theorem ok__law_bent (T : Tx K mg) : FnZ P w K mg base 3 T.a__law_bent T.d__law_bent ["box", "text"] F_law_bent := by
  have G__law_draw := ok__law_draw (P := P) (w := w) (base := base) T
  have G__law_pick := ok__law_pick (P := P) (w := w) (base := base) T
  exact fn_ok T.u__law_bent (k := 2) sc_law_bent (by decide) fun cdv A outer s H E hr tk =>
    ss_cons (s_set (i := 2) sc_law_bent.nd (ec_str)) (ss_cons (s_set (i := 3) sc_law_bent.nd (e_call G__law_draw (hr.mono (by omega)) T.g__law_draw T.k__law_draw (bd__law_draw T) .nil .nil tk (a_cons (ev 0) (a_cons (e_op oPlus sPlus (e_cb call_len sLen (by rfl) T.b_len (by decide +kernel) (a_cons (ev 1) (a_nil))) (ec_int)) (a_nil))))) (ss_cons (s_set (i := 4) sc_law_bent.nd (e_call G__law_pick (hr.mono (by omega)) T.g__law_pick T.k__law_pick (bd__law_pick T) .nil .nil tk (a_cons (ev 0) (a_cons (ev 2) (a_nil))))) (ss_cons (s_set (i := 5) sc_law_bent.nd (e_call G__law_draw (hr.mono (by omega)) T.g__law_draw T.k__law_draw (bd__law_draw T) .nil .nil tk (a_cons (ev 0) (a_cons (ec_int) (a_nil))))) (ss_cons (s_if (t_cmp (oEq hr.units) sEq (ev 5) (ec_int)) (ss_one (s_ret (e_op oPlus sPlus (e_op oPlus sPlus (e_sl false (ev 1) (o_none) (o_some (ev 3))) (ev 4)) (e_sl false (ev 1) (o_some (ev 3)) (o_none))))) (ss_nil)) (ss_cons (s_if (t_cmp (oEq hr.units) sEq (ev 5) (ec_int)) (ss_one (s_ret (e_op oPlus sPlus (e_op oPlus sPlus (e_sl false (ev 1) (o_none) (o_some (ev 3))) (ev 4)) (e_sl false (ev 1) (o_some (e_op oPlus sPlus (ev 3) (ec_int))) (o_none))))) (ss_nil)) (ss_cons (s_if (t_cmp (oEq hr.units) sEq (ev 5) (ec_int)) (ss_one (s_ret (e_op oPlus sPlus (e_sl false (ev 1) (o_none) (o_some (ev 3))) (e_sl false (ev 1) (o_some (e_op oPlus sPlus (ev 3) (ec_int))) (o_none))))) (ss_nil)) (ss_cons (s_if (t_cmp (oEq hr.units) sEq (ev 5) (ec_int)) (ss_one (s_ret (e_op oPlus sPlus (e_op oPlus sPlus (e_sl false (ev 1) (o_none) (o_some (ev 3))) (e_sl false (ev 1) (o_some (ev 3)) (o_some (e_op oPlus sPlus (ev 3) (ec_int))))) (e_sl false (ev 1) (o_some (ev 3)) (o_none))))) (ss_nil)) (ss_one (s_ret (e_op oPlus sPlus (e_sl false (ev 1) (o_some (ev 3)) (o_none)) (e_sl false (ev 1) (o_none) (o_some (ev 3)))))))))))))
theorem ok__law_odd (T : Tx K mg) : FnZ P w K mg base 3 T.a__law_odd T.d__law_odd ["box"] F_law_odd := by
  have G__law_pick := ok__law_pick (P := P) (w := w) (base := base) T
  exact fn_ok T.u__law_odd (k := 2) sc_law_odd (by decide) fun cdv A outer s H E hr tk =>
    ss_cons (s_set (i := 1) sc_law_odd.nd (e_lst false (a_cons (ec_str) (a_cons (ec_str) (a_cons (ec_str) (a_cons (ec_str) (a_cons (ec_str) (a_cons (ec_str) (a_cons (ec_str) (a_cons (ec_str) (a_cons (ec_str) (a_cons (ec_str) (a_cons (ec_str) (a_cons (ec_str) (a_cons (ec_str) (a_nil)))))))))))))))) (ss_cons (s_set (i := 1) sc_law_odd.nd (e_op oPlus sPlus (ev 1) (e_lst false (a_cons (ec_str) (a_cons (ec_str) (a_cons (ec_str) (a_cons (ec_str) (a_cons (ec_str) (a_cons (ec_str) (a_cons (ec_str) (a_cons (ec_str) (a_cons (ec_str) (a_nil))))))))))))) (ss_cons (s_set (i := 1) sc_law_odd.nd (e_op oPlus sPlus (ev 1) (e_lst false (a_cons (ec_str) (a_cons (ec_str) (a_cons (ec_str) (a_cons (ec_str) (a_cons (ec_str) (a_cons (ec_str) (a_cons (ec_str) (a_cons (ec_str) (a_nil)))))))))))) (ss_one (s_ret (e_call G__law_pick (hr.mono (by omega)) T.g__law_pick T.k__law_pick (bd__law_pick T) .nil .nil tk (a_cons (ev 0) (a_cons (ev 1) (a_nil))))))))
theorem ok__law_long (T : Tx K mg) : FnZ P w K mg base 2 T.a__law_long T.d__law_long ["box", "size"] F_law_long := by
  have G__law_draw := ok__law_draw (P := P) (w := w) (base := base) T
  exact fn_ok T.u__law_long (k := 1) sc_law_long (by decide) fun cdv A outer s H E hr tk =>
    ss_cons (s_set (i := 2) sc_law_long.nd (e_ct cr_str sStr (by rfl) T.b_str (by decide +kernel) (a_cons (e_op oPlus sPlus (ec_int) (e_call G__law_draw (hr.mono (by omega)) T.g__law_draw T.k__law_draw (bd__law_draw T) .nil .nil tk (a_cons (ev 0) (a_cons (ec_int) (a_nil))))) (a_nil)))) (ss_cons (s_for rfl (i_rng1 (by rfl) T.b_range (a_cons (e_op op_sub sSub (ev 1) (ec_int)) (a_nil))) (g_n 3 sc_law_long.nd) (ss_one (s_set (i := 2) sc_law_long.nd (e_op oPlus sPlus (ev 2) (e_ct cr_str sStr (by rfl) T.b_str (by decide +kernel) (a_cons (e_call G__law_draw (hr.mono (by omega)) T.g__law_draw T.k__law_draw (bd__law_draw T) .nil .nil tk (a_cons (ev 0) (a_cons (ec_int) (a_nil)))) (a_nil)))))) (passes_of rfl)) (ss_one (s_ret (ev 2))))
theorem ok__law_wide_text (T : Tx K mg) : FnZ P w K mg base 3 T.a__law_wide_text T.d__law_wide_text ["box"] F_law_wide_text := by
  have G__law_draw := ok__law_draw (P := P) (w := w) (base := base) T
  have G__law_long := ok__law_long (P := P) (w := w) (base := base) T
  have G__law_pick := ok__law_pick (P := P) (w := w) (base := base) T
  exact fn_ok T.u__law_wide_text (k := 2) sc_law_wide_text (by decide) fun cdv A outer s H E hr tk =>
    ss_cons (s_set (i := 1) sc_law_wide_text.nd (e_call G__law_long (hr.mono (by omega)) T.g__law_long T.k__law_long (bd__law_long T) .nil .nil tk (a_cons (ev 0) (a_cons (e_op oPlus sPlus (ec_int) (e_call G__law_draw (hr.mono (by omega)) T.g__law_draw T.k__law_draw (bd__law_draw T) .nil .nil tk (a_cons (ev 0) (a_cons (ec_int) (a_nil))))) (a_nil))))) (ss_cons (s_set (i := 2) sc_law_wide_text.nd (ev 1)) (ss_cons (s_set (i := 3) sc_law_wide_text.nd (e_call G__law_draw (hr.mono (by omega)) T.g__law_draw T.k__law_draw (bd__law_draw T) .nil .nil tk (a_cons (ev 0) (a_cons (ec_int) (a_nil))))) (ss_cons (s_if (t_cmp (oEq hr.units) sEq (ev 3) (ec_int)) (ss_one (s_set (i := 2) sc_law_wide_text.nd (ec_str))) (ss_nil)) (ss_cons (s_if (t_cmp (oEq hr.units) sEq (ev 3) (ec_int)) (ss_one (s_set (i := 2) sc_law_wide_text.nd (e_ct cr_str sStr (by rfl) T.b_str (by decide +kernel) (a_cons (e_op op_sub sSub (e_op oPlus sPlus (e_ct cr_intT sIntT (by rfl) T.b_int (by decide +kernel) (a_cons (ev 1) (a_nil))) (e_call G__law_draw (hr.mono (by omega)) T.g__law_draw T.k__law_draw (bd__law_draw T) .nil .nil tk (a_cons (ev 0) (a_cons (ec_int) (a_nil))))) (ec_int)) (a_nil))))) (ss_nil)) (ss_cons (s_if (t_cmp (oEq hr.units) sEq (ev 3) (ec_int)) (ss_one (s_set (i := 2) sc_law_wide_text.nd (e_call G__law_long (hr.mono (by omega)) T.g__law_long T.k__law_long (bd__law_long T) .nil .nil tk (a_cons (ev 0) (a_cons (e_op oPlus sPlus (ec_int) (e_call G__law_draw (hr.mono (by omega)) T.g__law_draw T.k__law_draw (bd__law_draw T) .nil .nil tk (a_cons (ev 0) (a_cons (ec_int) (a_nil))))) (a_nil)))))) (ss_nil)) (ss_cons (s_if (t_cmp (oEq hr.units) sEq (e_call G__law_draw (hr.mono (by omega)) T.g__law_draw T.k__law_draw (bd__law_draw T) .nil .nil tk (a_cons (ev 0) (a_cons (ec_int) (a_nil)))) (ec_int)) (ss_one (s_set (i := 2) sc_law_wide_text.nd (e_call G__law_pick (hr.mono (by omega)) T.g__law_pick T.k__law_pick (bd__law_pick T) .nil .nil tk (a_cons (ev 0) (a_cons (e_lst false (a_cons (ec_str) (a_cons (ec_str) (a_cons (ec_str) (a_cons (ec_str) (a_cons (ec_str) (a_cons (ec_str) (a_cons (ec_str) (a_cons (ec_str) (a_nil)))))))))) (a_nil)))))) (ss_nil)) (ss_one (s_ret (e_op oPlus sPlus (e_op oPlus sPlus (e_op oPlus sPlus (e_op oPlus sPlus (e_call G__law_pick (hr.mono (by omega)) T.g__law_pick T.k__law_pick (bd__law_pick T) .nil .nil tk (a_cons (ev 0) (a_cons (e_lst false (a_cons (ec_str) (a_cons (ec_str) (a_nil)))) (a_nil)))) (ev 1)) (ec_str)) (ev 2)) (e_call G__law_pick (hr.mono (by omega)) T.g__law_pick T.k__law_pick (bd__law_pick T) .nil .nil tk (a_cons (ev 0) (a_cons (e_lst false (a_cons (ec_str) (a_cons (ec_str) (a_nil)))) (a_nil)))))))))))))
theorem ok__law_string (T : Tx K mg) : FnZ P w K mg base 4 T.a__law_string T.d__law_string ["box", "text"] F_law_string := by
  have G__law_bent := ok__law_bent (P := P) (w := w) (base := base) T
  have G__law_draw := ok__law_draw (P := P) (w := w) (base := base) T
  have G__law_odd := ok__law_odd (P := P) (w := w) (base := base) T
  have G__law_pick := ok__law_pick (P := P) (w := w) (base := base) T
  have G__law_wide_text := ok__law_wide_text (P := P) (w := w) (base := base) T
  exact fn_ok T.u__law_string (k := 3) sc_law_string (by decide) fun cdv A outer s H E hr tk =>
    ss_cons (s_set (i := 2) sc_law_string.nd (e_call G__law_draw (hr.mono (by omega)) T.g__law_draw T.k__law_draw (bd__law_draw T) .nil .nil tk (a_cons (ev 0) (a_cons (ec_int) (a_nil))))) (ss_cons (s_if (t_cmp op_lt sLt (ev 2) (ec_int)) (ss_cons (s_for rfl (i_rng1 (by rfl) T.b_range (a_cons (ev 2) (a_nil))) (g_n 3 sc_law_string.nd) (ss_one (s_set (i := 1) sc_law_string.nd (e_call G__law_bent (hr.mono (by omega)) T.g__law_bent T.k__law_bent (bd__law_bent T) .nil .nil tk (a_cons (ev 0) (a_cons (ev 1) (a_nil)))))) (passes_of rfl)) (ss_one (s_ret (ev 1)))) (ss_nil)) (ss_cons (s_if (t_cmp op_lt sLt (ev 2) (ec_int)) (ss_one (s_ret (e_call G__law_wide_text (hr.mono (by omega)) T.g__law_wide_text T.k__law_wide_text (bd__law_wide_text T) .nil .nil tk (a_cons (ev 0) (a_nil))))) (ss_nil)) (ss_cons (s_if (t_cmp (oEq hr.units) sEq (ev 2) (ec_int)) (ss_cons (s_if (t_cmp (oEq hr.units) sEq (e_call G__law_draw (hr.mono (by omega)) T.g__law_draw T.k__law_draw (bd__law_draw T) .nil .nil tk (a_cons (ev 0) (a_cons (ec_int) (a_nil)))) (ec_int)) (ss_one (s_ret (e_op oPlus sPlus (e_op oPlus sPlus (e_call G__law_pick (hr.mono (by omega)) T.g__law_pick T.k__law_pick (bd__law_pick T) .nil .nil tk (a_cons (ev 0) (a_cons (e_lst false (a_cons (ec_str) (a_cons (ec_str) (a_cons (ec_str) (a_nil))))) (a_nil)))) (e_op op_mulS sMulS (ec_str) (ec_int))) (ec_str)))) (ss_nil)) (ss_one (s_ret (e_call G__law_odd (hr.mono (by omega)) T.g__law_odd T.k__law_odd (bd__law_odd T) .nil .nil tk (a_cons (ev 0) (a_nil)))))) (ss_nil)) (ss_cons (s_set (i := 4) sc_law_string.nd (ec_str)) (ss_cons (s_for rfl (i_rng1 (by rfl) T.b_range (a_cons (e_call G__law_draw (hr.mono (by omega)) T.g__law_draw T.k__law_draw (bd__law_draw T) .nil .nil tk (a_cons (ev 0) (a_cons (ec_int) (a_nil)))) (a_nil))) (g_n 3 sc_law_string.nd) (ss_one (s_set (i := 4) sc_law_string.nd (e_op oPlus sPlus (ev 4) (e_call G__law_pick (hr.mono (by omega)) T.g__law_pick T.k__law_pick (bd__law_pick T) .nil .nil tk (a_cons (ev 0) (a_cons (ec_str) (a_nil))))))) (passes_of rfl)) (ss_one (s_ret (ev 4))))))))
theorem ok__law_told (T : Tx K mg) : FnZ P w K mg base 6 T.a__law_told T.d__law_told ["text"] F_law_told := by
  have G_read_span := ok_read_span (P := P) (w := w) (base := base) T
  exact fn_ok T.u__law_told (k := 5) sc_law_told (by decide) fun cdv A outer s H E hr tk =>
    ss_one (s_try (i := 1) sc_law_told.nd T.e_InvalidSpan T.x_InvalidSpan tk (fun W' pn xe tk hp => ss_one (s_ret (e_tup (a_cons (ec_bl) (a_cons (e_call G_read_span (hr.mono (by omega)) T.g_read_span T.k_read_span (bd_read_span T) .nil .nil tk (a_cons (ev 0) (a_nil))) (a_nil)))))) (fun a oe dd pn hz hf => ss_cons (s_set (i := 2) sc_law_told.nd (e_and (e_isX T.e_InvalidSpan hz hf T.b_isinstance T.gl_BellError T.k_InvalidSpan_BellError (ev 1)) (e_one (e_isXB (T' := "ValueError") T.e_InvalidSpan hz hf T.b_isinstance T.b_ValueError (by decide +kernel) T.k_InvalidSpan_ValueError (ev 1))))) (ss_cons (s_set (i := 2) sc_law_told.nd (e_and (ev 2) (e_and (e_not (e_isX T.e_InvalidSpan hz hf T.b_isinstance T.e_InvalidMoment.gl T.k_InvalidSpan_InvalidMoment (ev 1))) (e_one (e_not (e_isX T.e_InvalidSpan hz hf T.b_isinstance T.e_InvalidTable.gl T.k_InvalidSpan_InvalidTable (ev 1))))))) (ss_one (s_ret (e_tup (a_cons (ec_bl) (a_cons (e_tup (a_cons (e_xf T.e_InvalidSpan (by simp) hz hf (ev 1)) (a_cons (ev 2) (a_nil)))) (a_nil)))))))))
theorem ok_law (T : Tx K mg) : FnZ P w K mg base 8 T.a_law T.d_law ["script"] Flaw := by
  have G__law_box := ok__law_box (P := P) (w := w) (base := base) T
  have G__law_meant := ok__law_meant (P := P) (w := w) (base := base) T
  have G__law_same := ok__law_same (P := P) (w := w) (base := base) T 6
  have G__law_span := ok__law_span (P := P) (w := w) (base := base) T
  have G__law_string := ok__law_string (P := P) (w := w) (base := base) T
  have G__law_text := ok__law_text (P := P) (w := w) (base := base) T
  have G__law_told := ok__law_told (P := P) (w := w) (base := base) T
  have G_span_text := ok_span_text (P := P) (w := w) (base := base) T
  exact fn_ok T.u_law (k := 7) sclaw (by decide) fun cdv A outer s H E hr tk =>
    ss_cons (s_set (i := 1) sclaw.nd (e_call G__law_box (hr.mono (by omega)) T.g__law_box T.k__law_box (bd__law_box T) .nil .nil tk (a_cons (ev 0) (a_nil)))) (ss_cons (s_set (i := 2) sclaw.nd (e_call G__law_span (hr.mono (by omega)) T.g__law_span T.k__law_span (bd__law_span T) .nil .nil tk (a_cons (ev 1) (a_nil)))) (ss_cons (s_set (i := 3) sclaw.nd (e_call G__law_text (hr.mono (by omega)) T.g__law_text T.k__law_text (bd__law_text T) .nil .nil tk (a_cons (ev 2) (a_nil)))) (ss_cons (s_if (PW.pt (w_or (t_not (t_B (e_call G__law_same (hr.mono (by omega)) T.g__law_same T.k__law_same (bd__law_same T) .nil .nil tk (a_cons (e_call G_span_text (hr.mono (by omega)) T.g_span_text T.k_span_text (bd_span_text T) .nil .nil tk (a_cons (ev 2) (a_nil))) (a_cons (ev 3) (a_nil)))))) (w_or1 (t_not (t_B (e_call G__law_same (hr.mono (by omega)) T.g__law_same T.k__law_same (bd__law_same T) .nil .nil tk (a_cons (e_call G__law_told (hr.mono (by omega)) T.g__law_told T.k__law_told (bd__law_told T) .nil .nil tk (a_cons (ev 3) (a_nil))) (a_cons (e_tup (a_cons (ec_bl) (a_cons (ev 2) (a_nil)))) (a_nil))))))))) (ss_one (s_ret (ec_bl))) (ss_nil)) (ss_cons (s_for rfl (i_rng1 (by rfl) T.b_range (a_cons (ec_int) (a_nil))) (g_n 4 sclaw.nd) (ss_cons (s_set (i := 5) sclaw.nd (e_call G__law_string (hr.mono (by omega)) T.g__law_string T.k__law_string (bd__law_string T) .nil .nil tk (a_cons (ev 1) (a_cons (ev 3) (a_nil))))) (ss_cons (s_set (i := 6) sclaw.nd (e_call G__law_meant (hr.mono (by omega)) T.g__law_meant T.k__law_meant (bd__law_meant T) .nil .nil tk (a_cons (ev 5) (a_nil)))) (ss_cons (s_set (i := 7) sclaw.nd (e_tup (a_cons (ec_bl) (a_cons (e_tup (a_cons (ev 5) (a_cons (ec_bl) (a_nil)))) (a_nil))))) (ss_cons (s_if (t_notN (ev 6)) (ss_one (s_set (i := 7) sclaw.nd (e_tup (a_cons (ec_bl) (a_cons (ev 6) (a_nil)))))) (ss_nil)) (ss_cons (s_for rfl (i_rng1 (by rfl) T.b_range (a_cons (ec_int) (a_nil))) (g_n 8 sclaw.nd) (ss_one (s_if (t_not (t_B (e_call G__law_same (hr.mono (by omega)) T.g__law_same T.k__law_same (bd__law_same T) .nil .nil tk (a_cons (e_call G__law_told (hr.mono (by omega)) T.g__law_told T.k__law_told (bd__law_told T) .nil .nil tk (a_cons (ev 5) (a_nil))) (a_cons (ev 7) (a_nil)))))) (ss_one (s_ret (ec_bl))) (ss_nil))) (passes_of rfl)) (ss_cons (s_set (i := 9) sclaw.nd (e_and (e_notN (ev 6)) (e_one (e_cmp op_lt sLt (e_ix ix_seq sIx (e_ix ix_seq sIx (ev 6) (ec_int)) (ec_int)) (ec_int))))) (ss_one (s_if (PW.pt (w_and (t_B (ev 9)) (w_and1 (PW.pt (w_or (t_isN (e_ix ix_seq sIx (ev 6) (ec_int))) (w_or1 (t_cmp op_lt sLt (e_ix ix_seq sIx (e_ix ix_seq sIx (ev 6) (ec_int)) (ec_int)) (ec_int)))))))) (ss_one (s_if (t_not (t_B (e_call G__law_same (hr.mono (by omega)) T.g__law_same T.k__law_same (bd__law_same T) .nil .nil tk (a_cons (e_call G_span_text (hr.mono (by omega)) T.g_span_text T.k_span_text (bd_span_text T) .nil .nil tk (a_cons (ev 6) (a_nil))) (a_cons (ev 5) (a_nil)))))) (ss_one (s_ret (ec_bl))) (ss_nil))) (ss_nil))))))))) (passes_of rfl)) (ss_one (s_ret (e_call G__law_same (hr.mono (by omega)) T.g__law_same T.k__law_same (bd__law_same T) .nil .nil tk (a_cons (e_call G__law_told (hr.mono (by omega)) T.g__law_told T.k__law_told (bd__law_told T) .nil .nil tk (a_cons (ev 3) (a_nil))) (a_cons (e_tup (a_cons (ec_bl) (a_cons (ev 2) (a_nil)))) (a_nil))))))))))
end
end K05
end

section
set_option Elab.async false
set_option linter.all false
set_option maxRecDepth 100000
set_option maxHeartbeats 4000000
namespace K05
open PySem PySem.Spec PyProof.Rows L2 Z
theorem all_mk {P : Program} {w : World} {K : PySem.W.Frag} {h : Heap} {mg : Str → Option Value} {fa : Addr} (X : K.In h) (G : h.Ns mainGlobals mg) (hfa : mg "law" = some (.ref fa)) (hF : Holds Flaw)
    {w_MOST_DIGITS : Tok}
    {C_BellError : Addr}
    {C_InvalidMoment : Addr}
    {nm_InvalidMoment qn_InvalidMoment : Str} {N_InvalidMoment : Addr} {bs_InvalidMoment bm_InvalidMoment : List Value} {sn_InvalidMoment : List Str} {su_InvalidMoment : List Value} {ab_InvalidMoment : Bool} {co_InvalidMoment : Option Bool} {dd_InvalidMoment : Option Addr} {m0_InvalidMoment m1_InvalidMoment m2_InvalidMoment m3_InvalidMoment m5_InvalidMoment : Option Value}
    {I_InvalidMoment : Addr} {oc_InvalidMoment : Value} {od_InvalidMoment an_InvalidMoment : Option Addr} {sl_InvalidMoment : Array (Option Value)} {kV_InvalidMoment dc_InvalidMoment pm_InvalidMoment cd_InvalidMoment ct_InvalidMoment : Value}
    {C_InvalidSpan : Addr}
    {nm_InvalidSpan qn_InvalidSpan : Str} {N_InvalidSpan : Addr} {bs_InvalidSpan bm_InvalidSpan : List Value} {sn_InvalidSpan : List Str} {su_InvalidSpan : List Value} {ab_InvalidSpan : Bool} {co_InvalidSpan : Option Bool} {dd_InvalidSpan : Option Addr} {m0_InvalidSpan m1_InvalidSpan m2_InvalidSpan m3_InvalidSpan m5_InvalidSpan : Option Value}
    {I_InvalidSpan : Addr} {oc_InvalidSpan : Value} {od_InvalidSpan an_InvalidSpan : Option Addr} {sl_InvalidSpan : Array (Option Value)} {kV_InvalidSpan dc_InvalidSpan pm_InvalidSpan cd_InvalidSpan ct_InvalidSpan : Value}
    {C_InvalidTable : Addr}
    {nm_InvalidTable qn_InvalidTable : Str} {N_InvalidTable : Addr} {bs_InvalidTable bm_InvalidTable : List Value} {sn_InvalidTable : List Str} {su_InvalidTable : List Value} {ab_InvalidTable : Bool} {co_InvalidTable : Option Bool} {dd_InvalidTable : Option Addr} {m0_InvalidTable m1_InvalidTable m2_InvalidTable m3_InvalidTable m5_InvalidTable : Option Value}
    {I_InvalidTable : Addr} {oc_InvalidTable : Value} {od_InvalidTable an_InvalidTable : Option Addr} {sl_InvalidTable : Array (Option Value)} {kV_InvalidTable dc_InvalidTable pm_InvalidTable cd_InvalidTable ct_InvalidTable : Value}
    {f_is_whole : Addr} {oc_is_whole : Value} {od_is_whole an_is_whole : Option Addr} {sl_is_whole : Array (Option Value)} {kV_is_whole dc_is_whole pm_is_whole cd_is_whole ct_is_whole : Value}
    {f_is_tuple_of : Addr} {oc_is_tuple_of : Value} {od_is_tuple_of an_is_tuple_of : Option Addr} {sl_is_tuple_of : Array (Option Value)} {kV_is_tuple_of dc_is_tuple_of pm_is_tuple_of cd_is_tuple_of ct_is_tuple_of : Value}
    {f_is_numeral : Addr} {oc_is_numeral : Value} {od_is_numeral an_is_numeral : Option Addr} {sl_is_numeral : Array (Option Value)} {kV_is_numeral dc_is_numeral pm_is_numeral cd_is_numeral ct_is_numeral : Value}
    {f_is_edge : Addr} {oc_is_edge : Value} {od_is_edge an_is_edge : Option Addr} {sl_is_edge : Array (Option Value)} {kV_is_edge dc_is_edge pm_is_edge cd_is_edge ct_is_edge : Value}
    {f_is_span : Addr} {oc_is_span : Value} {od_is_span an_is_span : Option Addr} {sl_is_span : Array (Option Value)} {kV_is_span dc_is_span pm_is_span cd_is_span ct_is_span : Value}
    {f_has_moment : Addr} {oc_has_moment : Value} {od_has_moment an_has_moment : Option Addr} {sl_has_moment : Array (Option Value)} {kV_has_moment dc_has_moment pm_has_moment cd_has_moment ct_has_moment : Value}
    {f_span_text : Addr} {oc_span_text : Value} {od_span_text an_span_text : Option Addr} {sl_span_text : Array (Option Value)} {kV_span_text dc_span_text pm_span_text cd_span_text ct_span_text : Value}
    {f_read_span : Addr} {oc_read_span : Value} {od_read_span an_read_span : Option Addr} {sl_read_span : Array (Option Value)} {kV_read_span dc_read_span pm_read_span cd_read_span ct_read_span : Value}
    {f_is_limit_text : Addr} {oc_is_limit_text : Value} {od_is_limit_text an_is_limit_text : Option Addr} {sl_is_limit_text : Array (Option Value)} {kV_is_limit_text dc_is_limit_text pm_is_limit_text cd_is_limit_text ct_is_limit_text : Value}
    {f_span_in_text : Addr} {oc_span_in_text : Value} {od_span_in_text an_span_in_text : Option Addr} {sl_span_in_text : Array (Option Value)} {kV_span_in_text dc_span_in_text pm_span_in_text cd_span_in_text ct_span_in_text : Value}
    {f__law_box : Addr} {oc__law_box : Value} {od__law_box an__law_box : Option Addr} {sl__law_box : Array (Option Value)} {kV__law_box dc__law_box pm__law_box cd__law_box ct__law_box : Value}
    {f__law_draw : Addr} {oc__law_draw : Value} {od__law_draw an__law_draw : Option Addr} {sl__law_draw : Array (Option Value)} {kV__law_draw dc__law_draw pm__law_draw cd__law_draw ct__law_draw : Value}
    {f__law_pick : Addr} {oc__law_pick : Value} {od__law_pick an__law_pick : Option Addr} {sl__law_pick : Array (Option Value)} {kV__law_pick dc__law_pick pm__law_pick cd__law_pick ct__law_pick : Value}
    {f__law_same : Addr} {oc__law_same : Value} {od__law_same an__law_same : Option Addr} {sl__law_same : Array (Option Value)} {kV__law_same dc__law_same pm__law_same cd__law_same ct__law_same : Value}
    {f__law_limit : Addr} {oc__law_limit : Value} {od__law_limit an__law_limit : Option Addr} {sl__law_limit : Array (Option Value)} {kV__law_limit dc__law_limit pm__law_limit cd__law_limit ct__law_limit : Value}
    {f__law_span : Addr} {oc__law_span : Value} {od__law_span an__law_span : Option Addr} {sl__law_span : Array (Option Value)} {kV__law_span dc__law_span pm__law_span cd__law_span ct__law_span : Value}
    {f__law_text : Addr} {oc__law_text : Value} {od__law_text an__law_text : Option Addr} {sl__law_text : Array (Option Value)} {kV__law_text dc__law_text pm__law_text cd__law_text ct__law_text : Value}
    {f__law_digits : Addr} {oc__law_digits : Value} {od__law_digits an__law_digits : Option Addr} {sl__law_digits : Array (Option Value)} {kV__law_digits dc__law_digits pm__law_digits cd__law_digits ct__law_digits : Value}
    {f__law_meant : Addr} {oc__law_meant : Value} {od__law_meant an__law_meant : Option Addr} {sl__law_meant : Array (Option Value)} {kV__law_meant dc__law_meant pm__law_meant cd__law_meant ct__law_meant : Value}
    {f__law_bent : Addr} {oc__law_bent : Value} {od__law_bent an__law_bent : Option Addr} {sl__law_bent : Array (Option Value)} {kV__law_bent dc__law_bent pm__law_bent cd__law_bent ct__law_bent : Value}
    {f__law_odd : Addr} {oc__law_odd : Value} {od__law_odd an__law_odd : Option Addr} {sl__law_odd : Array (Option Value)} {kV__law_odd dc__law_odd pm__law_odd cd__law_odd ct__law_odd : Value}
    {f__law_long : Addr} {oc__law_long : Value} {od__law_long an__law_long : Option Addr} {sl__law_long : Array (Option Value)} {kV__law_long dc__law_long pm__law_long cd__law_long ct__law_long : Value}
    {f__law_wide_text : Addr} {oc__law_wide_text : Value} {od__law_wide_text an__law_wide_text : Option Addr} {sl__law_wide_text : Array (Option Value)} {kV__law_wide_text dc__law_wide_text pm__law_wide_text cd__law_wide_text ct__law_wide_text : Value}
    {f__law_string : Addr} {oc__law_string : Value} {od__law_string an__law_string : Option Addr} {sl__law_string : Array (Option Value)} {kV__law_string dc__law_string pm__law_string cd__law_string ct__law_string : Value}
    {f__law_told : Addr} {oc__law_told : Value} {od__law_told an__law_told : Option Addr} {sl__law_told : Array (Option Value)} {kV__law_told dc__law_told pm__law_told cd__law_told ct__law_told : Value}
    {f_law : Addr} {oc_law : Value} {od_law an_law : Option Addr} {sl_law : Array (Option Value)} {kV_law dc_law pm_law cd_law ct_law : Value}
    (gB_ValueError : PySem.W.nsIn K mainGlobals "ValueError" = some none)
    (gB_all : PySem.W.nsIn K mainGlobals "all" = some none)
    (gB_bool : PySem.W.nsIn K mainGlobals "bool" = some none)
    (gB_int : PySem.W.nsIn K mainGlobals "int" = some none)
    (gB_isinstance : PySem.W.nsIn K mainGlobals "isinstance" = some none)
    (gB_len : PySem.W.nsIn K mainGlobals "len" = some none)
    (gB_min : PySem.W.nsIn K mainGlobals "min" = some none)
    (gB_range : PySem.W.nsIn K mainGlobals "range" = some none)
    (gB_str : PySem.W.nsIn K mainGlobals "str" = some none)
    (gB_tuple : PySem.W.nsIn K mainGlobals "tuple" = some none)
    (v_MOST_DIGITS : PySem.W.nsIn K mainGlobals "MOST_DIGITS" = some (some (.int 9 w_MOST_DIGITS)))
    (a_BellError : PySem.W.nsIn K mainGlobals "BellError" = some (some (.ref C_BellError)))
    (hd_BellError : PySem.W.hasDictIn K C_BellError = true)
    (ty_BellError : PySem.W.typeIn K (.ref C_BellError) = some (.type "type"))
    (a_InvalidMoment : PySem.W.nsIn K mainGlobals "InvalidMoment" = some (some (.ref C_InvalidMoment)))
    (xl_InvalidMoment : K.lookup C_InvalidMoment = some (excClassObj nm_InvalidMoment qn_InvalidMoment C_InvalidMoment N_InvalidMoment bs_InvalidMoment bm_InvalidMoment true sn_InvalidMoment su_InvalidMoment ab_InvalidMoment co_InvalidMoment dd_InvalidMoment m0_InvalidMoment m1_InvalidMoment m2_InvalidMoment m3_InvalidMoment m5_InvalidMoment "ValueError.__new__"))
    (rv_InvalidMoment : PySem.HandSPX.refsVE bm_InvalidMoment = true)
    (sa_InvalidMoment : PySem.W.findIn K (.ref C_InvalidMoment) "__setattr__" = some (some (.builtin "object.__setattr__")))
    (ga_InvalidMoment : PySem.W.findIn K (.ref C_InvalidMoment) "__getattribute__" = some (some (.builtin "BaseException.__getattribute__")))
    (gg_InvalidMoment : PySem.W.findIn K (.ref C_InvalidMoment) "__getattr__" = some none)
    (ex_InvalidMoment : PySem.W.subIn K (.ref C_InvalidMoment) (.type "BaseException") = some true)
    (ty_InvalidMoment : PySem.W.typeIn K (.ref C_InvalidMoment) = some (.type "type"))
    (kC_InvalidMoment : PySem.W.keepIn K (.ref C_InvalidMoment) = true)
    (hd_InvalidMoment : PySem.W.hasDictIn K C_InvalidMoment = true)
    (ca_InvalidMoment : PySem.W.findIn K (.ref C_InvalidMoment) "__class__" = some (some (.builtin "object.__class__")))
    (cm_InvalidMoment : PySem.W.mroIn K C_InvalidMoment (.type "object") = some true)
    (no_InvalidMoment_value : PySem.W.findIn K (.ref C_InvalidMoment) "value" = some none)
    (ci_InvalidMoment : PySem.W.findIn K (.ref C_InvalidMoment) "__init__" = some (some (.ref I_InvalidMoment)))
    (ti_InvalidMoment : PySem.W.typeIn K (.ref I_InvalidMoment) = some (.type "function"))
    (li_InvalidMoment : K.lookup I_InvalidMoment = some ⟨oc_InvalidMoment, od_InvalidMoment, .func (PySem.W.fnOf "__init__" "InvalidMoment.__init__" (defArgs sInvalidMoment) (defBody sInvalidMoment) (defScope sInvalidMoment) .none kV_InvalidMoment dc_InvalidMoment pm_InvalidMoment an_InvalidMoment cd_InvalidMoment ct_InvalidMoment), sl_InvalidMoment⟩)
    (cc_InvalidMoment : PySem.W.codeIn K cd_InvalidMoment "InvalidMoment.__init__" = true)
    (ki_InvalidMoment : PySem.W.keepIn K (.ref I_InvalidMoment) = true)
    (ss_InvalidMoment : PySem.W.subIn K (.ref C_InvalidMoment) (.ref C_InvalidMoment) = some true)
    (a_InvalidSpan : PySem.W.nsIn K mainGlobals "InvalidSpan" = some (some (.ref C_InvalidSpan)))
    (xl_InvalidSpan : K.lookup C_InvalidSpan = some (excClassObj nm_InvalidSpan qn_InvalidSpan C_InvalidSpan N_InvalidSpan bs_InvalidSpan bm_InvalidSpan true sn_InvalidSpan su_InvalidSpan ab_InvalidSpan co_InvalidSpan dd_InvalidSpan m0_InvalidSpan m1_InvalidSpan m2_InvalidSpan m3_InvalidSpan m5_InvalidSpan "ValueError.__new__"))
    (rv_InvalidSpan : PySem.HandSPX.refsVE bm_InvalidSpan = true)
    (sa_InvalidSpan : PySem.W.findIn K (.ref C_InvalidSpan) "__setattr__" = some (some (.builtin "object.__setattr__")))
    (ga_InvalidSpan : PySem.W.findIn K (.ref C_InvalidSpan) "__getattribute__" = some (some (.builtin "BaseException.__getattribute__")))
    (gg_InvalidSpan : PySem.W.findIn K (.ref C_InvalidSpan) "__getattr__" = some none)
    (ex_InvalidSpan : PySem.W.subIn K (.ref C_InvalidSpan) (.type "BaseException") = some true)
    (ty_InvalidSpan : PySem.W.typeIn K (.ref C_InvalidSpan) = some (.type "type"))
    (kC_InvalidSpan : PySem.W.keepIn K (.ref C_InvalidSpan) = true)
    (hd_InvalidSpan : PySem.W.hasDictIn K C_InvalidSpan = true)
    (ca_InvalidSpan : PySem.W.findIn K (.ref C_InvalidSpan) "__class__" = some (some (.builtin "object.__class__")))
    (cm_InvalidSpan : PySem.W.mroIn K C_InvalidSpan (.type "object") = some true)
    (no_InvalidSpan_value : PySem.W.findIn K (.ref C_InvalidSpan) "value" = some none)
    (ci_InvalidSpan : PySem.W.findIn K (.ref C_InvalidSpan) "__init__" = some (some (.ref I_InvalidSpan)))
    (ti_InvalidSpan : PySem.W.typeIn K (.ref I_InvalidSpan) = some (.type "function"))
    (li_InvalidSpan : K.lookup I_InvalidSpan = some ⟨oc_InvalidSpan, od_InvalidSpan, .func (PySem.W.fnOf "__init__" "InvalidSpan.__init__" (defArgs sInvalidSpan) (defBody sInvalidSpan) (defScope sInvalidSpan) .none kV_InvalidSpan dc_InvalidSpan pm_InvalidSpan an_InvalidSpan cd_InvalidSpan ct_InvalidSpan), sl_InvalidSpan⟩)
    (cc_InvalidSpan : PySem.W.codeIn K cd_InvalidSpan "InvalidSpan.__init__" = true)
    (ki_InvalidSpan : PySem.W.keepIn K (.ref I_InvalidSpan) = true)
    (ss_InvalidSpan : PySem.W.subIn K (.ref C_InvalidSpan) (.ref C_InvalidSpan) = some true)
    (a_InvalidTable : PySem.W.nsIn K mainGlobals "InvalidTable" = some (some (.ref C_InvalidTable)))
    (xl_InvalidTable : K.lookup C_InvalidTable = some (excClassObj nm_InvalidTable qn_InvalidTable C_InvalidTable N_InvalidTable bs_InvalidTable bm_InvalidTable true sn_InvalidTable su_InvalidTable ab_InvalidTable co_InvalidTable dd_InvalidTable m0_InvalidTable m1_InvalidTable m2_InvalidTable m3_InvalidTable m5_InvalidTable "ValueError.__new__"))
    (rv_InvalidTable : PySem.HandSPX.refsVE bm_InvalidTable = true)
    (sa_InvalidTable : PySem.W.findIn K (.ref C_InvalidTable) "__setattr__" = some (some (.builtin "object.__setattr__")))
    (ga_InvalidTable : PySem.W.findIn K (.ref C_InvalidTable) "__getattribute__" = some (some (.builtin "BaseException.__getattribute__")))
    (gg_InvalidTable : PySem.W.findIn K (.ref C_InvalidTable) "__getattr__" = some none)
    (ex_InvalidTable : PySem.W.subIn K (.ref C_InvalidTable) (.type "BaseException") = some true)
    (ty_InvalidTable : PySem.W.typeIn K (.ref C_InvalidTable) = some (.type "type"))
    (kC_InvalidTable : PySem.W.keepIn K (.ref C_InvalidTable) = true)
    (hd_InvalidTable : PySem.W.hasDictIn K C_InvalidTable = true)
    (ca_InvalidTable : PySem.W.findIn K (.ref C_InvalidTable) "__class__" = some (some (.builtin "object.__class__")))
    (cm_InvalidTable : PySem.W.mroIn K C_InvalidTable (.type "object") = some true)
    (no_InvalidTable_value : PySem.W.findIn K (.ref C_InvalidTable) "value" = some none)
    (ci_InvalidTable : PySem.W.findIn K (.ref C_InvalidTable) "__init__" = some (some (.ref I_InvalidTable)))
    (ti_InvalidTable : PySem.W.typeIn K (.ref I_InvalidTable) = some (.type "function"))
    (li_InvalidTable : K.lookup I_InvalidTable = some ⟨oc_InvalidTable, od_InvalidTable, .func (PySem.W.fnOf "__init__" "InvalidTable.__init__" (defArgs sInvalidTable) (defBody sInvalidTable) (defScope sInvalidTable) .none kV_InvalidTable dc_InvalidTable pm_InvalidTable an_InvalidTable cd_InvalidTable ct_InvalidTable), sl_InvalidTable⟩)
    (cc_InvalidTable : PySem.W.codeIn K cd_InvalidTable "InvalidTable.__init__" = true)
    (ki_InvalidTable : PySem.W.keepIn K (.ref I_InvalidTable) = true)
    (ss_InvalidTable : PySem.W.subIn K (.ref C_InvalidTable) (.ref C_InvalidTable) = some true)
    (xcn : PySem.W.specialIn K (.builtin "object.__class__") "__get__" = some (some (.builtin "getset_descriptor.__get__")))
    (xct : PySem.W.takesIn K (.builtin "object.__class__") = some true)
    (kt_InvalidSpan_BellError : PySem.W.subIn K (.ref C_InvalidSpan) (.ref C_BellError) = some true)
    (kt_InvalidSpan_InvalidMoment : PySem.W.subIn K (.ref C_InvalidSpan) (.ref C_InvalidMoment) = some false)
    (kt_InvalidSpan_InvalidTable : PySem.W.subIn K (.ref C_InvalidSpan) (.ref C_InvalidTable) = some false)
    (kt_InvalidSpan_ValueError : PySem.W.subIn K (.ref C_InvalidSpan) (.type "ValueError") = some true)
    (a_is_whole : PySem.W.nsIn K mainGlobals "is_whole" = some (some (.ref f_is_whole)))
    (l_is_whole : K.lookup f_is_whole = some ⟨oc_is_whole, od_is_whole, .func (PySem.W.fnOf "is_whole" "is_whole" (defArgs sis_whole) (defBody sis_whole) (defScope sis_whole) .none kV_is_whole dc_is_whole pm_is_whole an_is_whole cd_is_whole ct_is_whole), sl_is_whole⟩)
    (c_is_whole : PySem.W.codeIn K cd_is_whole "is_whole" = true)
    (k_is_whole : PySem.W.keepIn K (.ref f_is_whole) = true)
    (a_is_tuple_of : PySem.W.nsIn K mainGlobals "is_tuple_of" = some (some (.ref f_is_tuple_of)))
    (l_is_tuple_of : K.lookup f_is_tuple_of = some ⟨oc_is_tuple_of, od_is_tuple_of, .func (PySem.W.fnOf "is_tuple_of" "is_tuple_of" (defArgs sis_tuple_of) (defBody sis_tuple_of) (defScope sis_tuple_of) .none kV_is_tuple_of dc_is_tuple_of pm_is_tuple_of an_is_tuple_of cd_is_tuple_of ct_is_tuple_of), sl_is_tuple_of⟩)
    (c_is_tuple_of : PySem.W.codeIn K cd_is_tuple_of "is_tuple_of" = true)
    (k_is_tuple_of : PySem.W.keepIn K (.ref f_is_tuple_of) = true)
    (a_is_numeral : PySem.W.nsIn K mainGlobals "is_numeral" = some (some (.ref f_is_numeral)))
    (l_is_numeral : K.lookup f_is_numeral = some ⟨oc_is_numeral, od_is_numeral, .func (PySem.W.fnOf "is_numeral" "is_numeral" (defArgs sis_numeral) (defBody sis_numeral) (defScope sis_numeral) .none kV_is_numeral dc_is_numeral pm_is_numeral an_is_numeral cd_is_numeral ct_is_numeral), sl_is_numeral⟩)
    (c_is_numeral : PySem.W.codeIn K cd_is_numeral "is_numeral" = true)
    (k_is_numeral : PySem.W.keepIn K (.ref f_is_numeral) = true)
    (a_is_edge : PySem.W.nsIn K mainGlobals "is_edge" = some (some (.ref f_is_edge)))
    (l_is_edge : K.lookup f_is_edge = some ⟨oc_is_edge, od_is_edge, .func (PySem.W.fnOf "is_edge" "is_edge" (defArgs sis_edge) (defBody sis_edge) (defScope sis_edge) .none kV_is_edge dc_is_edge pm_is_edge an_is_edge cd_is_edge ct_is_edge), sl_is_edge⟩)
    (c_is_edge : PySem.W.codeIn K cd_is_edge "is_edge" = true)
    (k_is_edge : PySem.W.keepIn K (.ref f_is_edge) = true)
    (a_is_span : PySem.W.nsIn K mainGlobals "is_span" = some (some (.ref f_is_span)))
    (l_is_span : K.lookup f_is_span = some ⟨oc_is_span, od_is_span, .func (PySem.W.fnOf "is_span" "is_span" (defArgs sis_span) (defBody sis_span) (defScope sis_span) .none kV_is_span dc_is_span pm_is_span an_is_span cd_is_span ct_is_span), sl_is_span⟩)
    (c_is_span : PySem.W.codeIn K cd_is_span "is_span" = true)
    (k_is_span : PySem.W.keepIn K (.ref f_is_span) = true)
    (a_has_moment : PySem.W.nsIn K mainGlobals "has_moment" = some (some (.ref f_has_moment)))
    (l_has_moment : K.lookup f_has_moment = some ⟨oc_has_moment, od_has_moment, .func (PySem.W.fnOf "has_moment" "has_moment" (defArgs shas_moment) (defBody shas_moment) (defScope shas_moment) .none kV_has_moment dc_has_moment pm_has_moment an_has_moment cd_has_moment ct_has_moment), sl_has_moment⟩)
    (c_has_moment : PySem.W.codeIn K cd_has_moment "has_moment" = true)
    (k_has_moment : PySem.W.keepIn K (.ref f_has_moment) = true)
    (a_span_text : PySem.W.nsIn K mainGlobals "span_text" = some (some (.ref f_span_text)))
    (l_span_text : K.lookup f_span_text = some ⟨oc_span_text, od_span_text, .func (PySem.W.fnOf "span_text" "span_text" (defArgs sspan_text) (defBody sspan_text) (defScope sspan_text) .none kV_span_text dc_span_text pm_span_text an_span_text cd_span_text ct_span_text), sl_span_text⟩)
    (c_span_text : PySem.W.codeIn K cd_span_text "span_text" = true)
    (k_span_text : PySem.W.keepIn K (.ref f_span_text) = true)
    (a_read_span : PySem.W.nsIn K mainGlobals "read_span" = some (some (.ref f_read_span)))
    (l_read_span : K.lookup f_read_span = some ⟨oc_read_span, od_read_span, .func (PySem.W.fnOf "read_span" "read_span" (defArgs sread_span) (defBody sread_span) (defScope sread_span) .none kV_read_span dc_read_span pm_read_span an_read_span cd_read_span ct_read_span), sl_read_span⟩)
    (c_read_span : PySem.W.codeIn K cd_read_span "read_span" = true)
    (k_read_span : PySem.W.keepIn K (.ref f_read_span) = true)
    (a_is_limit_text : PySem.W.nsIn K mainGlobals "is_limit_text" = some (some (.ref f_is_limit_text)))
    (l_is_limit_text : K.lookup f_is_limit_text = some ⟨oc_is_limit_text, od_is_limit_text, .func (PySem.W.fnOf "is_limit_text" "is_limit_text" (defArgs sis_limit_text) (defBody sis_limit_text) (defScope sis_limit_text) .none kV_is_limit_text dc_is_limit_text pm_is_limit_text an_is_limit_text cd_is_limit_text ct_is_limit_text), sl_is_limit_text⟩)
    (c_is_limit_text : PySem.W.codeIn K cd_is_limit_text "is_limit_text" = true)
    (k_is_limit_text : PySem.W.keepIn K (.ref f_is_limit_text) = true)
    (a_span_in_text : PySem.W.nsIn K mainGlobals "span_in_text" = some (some (.ref f_span_in_text)))
    (l_span_in_text : K.lookup f_span_in_text = some ⟨oc_span_in_text, od_span_in_text, .func (PySem.W.fnOf "span_in_text" "span_in_text" (defArgs sspan_in_text) (defBody sspan_in_text) (defScope sspan_in_text) .none kV_span_in_text dc_span_in_text pm_span_in_text an_span_in_text cd_span_in_text ct_span_in_text), sl_span_in_text⟩)
    (c_span_in_text : PySem.W.codeIn K cd_span_in_text "span_in_text" = true)
    (k_span_in_text : PySem.W.keepIn K (.ref f_span_in_text) = true)
    (a__law_box : PySem.W.nsIn K mainGlobals "_law_box" = some (some (.ref f__law_box)))
    (l__law_box : K.lookup f__law_box = some ⟨oc__law_box, od__law_box, .func (PySem.W.fnOf "_law_box" "_law_box" (defArgs s_law_box) (defBody s_law_box) (defScope s_law_box) .none kV__law_box dc__law_box pm__law_box an__law_box cd__law_box ct__law_box), sl__law_box⟩)
    (c__law_box : PySem.W.codeIn K cd__law_box "_law_box" = true)
    (k__law_box : PySem.W.keepIn K (.ref f__law_box) = true)
    (a__law_draw : PySem.W.nsIn K mainGlobals "_law_draw" = some (some (.ref f__law_draw)))
    (l__law_draw : K.lookup f__law_draw = some ⟨oc__law_draw, od__law_draw, .func (PySem.W.fnOf "_law_draw" "_law_draw" (defArgs s_law_draw) (defBody s_law_draw) (defScope s_law_draw) .none kV__law_draw dc__law_draw pm__law_draw an__law_draw cd__law_draw ct__law_draw), sl__law_draw⟩)
    (c__law_draw : PySem.W.codeIn K cd__law_draw "_law_draw" = true)
    (k__law_draw : PySem.W.keepIn K (.ref f__law_draw) = true)
    (a__law_pick : PySem.W.nsIn K mainGlobals "_law_pick" = some (some (.ref f__law_pick)))
    (l__law_pick : K.lookup f__law_pick = some ⟨oc__law_pick, od__law_pick, .func (PySem.W.fnOf "_law_pick" "_law_pick" (defArgs s_law_pick) (defBody s_law_pick) (defScope s_law_pick) .none kV__law_pick dc__law_pick pm__law_pick an__law_pick cd__law_pick ct__law_pick), sl__law_pick⟩)
    (c__law_pick : PySem.W.codeIn K cd__law_pick "_law_pick" = true)
    (k__law_pick : PySem.W.keepIn K (.ref f__law_pick) = true)
    (a__law_same : PySem.W.nsIn K mainGlobals "_law_same" = some (some (.ref f__law_same)))
    (l__law_same : K.lookup f__law_same = some ⟨oc__law_same, od__law_same, .func (PySem.W.fnOf "_law_same" "_law_same" (defArgs s_law_same) (defBody s_law_same) (defScope s_law_same) .none kV__law_same dc__law_same pm__law_same an__law_same cd__law_same ct__law_same), sl__law_same⟩)
    (c__law_same : PySem.W.codeIn K cd__law_same "_law_same" = true)
    (k__law_same : PySem.W.keepIn K (.ref f__law_same) = true)
    (a__law_limit : PySem.W.nsIn K mainGlobals "_law_limit" = some (some (.ref f__law_limit)))
    (l__law_limit : K.lookup f__law_limit = some ⟨oc__law_limit, od__law_limit, .func (PySem.W.fnOf "_law_limit" "_law_limit" (defArgs s_law_limit) (defBody s_law_limit) (defScope s_law_limit) .none kV__law_limit dc__law_limit pm__law_limit an__law_limit cd__law_limit ct__law_limit), sl__law_limit⟩)
    (c__law_limit : PySem.W.codeIn K cd__law_limit "_law_limit" = true)
    (k__law_limit : PySem.W.keepIn K (.ref f__law_limit) = true)
    (a__law_span : PySem.W.nsIn K mainGlobals "_law_span" = some (some (.ref f__law_span)))
    (l__law_span : K.lookup f__law_span = some ⟨oc__law_span, od__law_span, .func (PySem.W.fnOf "_law_span" "_law_span" (defArgs s_law_span) (defBody s_law_span) (defScope s_law_span) .none kV__law_span dc__law_span pm__law_span an__law_span cd__law_span ct__law_span), sl__law_span⟩)
    (c__law_span : PySem.W.codeIn K cd__law_span "_law_span" = true)
    (k__law_span : PySem.W.keepIn K (.ref f__law_span) = true)
    (a__law_text : PySem.W.nsIn K mainGlobals "_law_text" = some (some (.ref f__law_text)))
    (l__law_text : K.lookup f__law_text = some ⟨oc__law_text, od__law_text, .func (PySem.W.fnOf "_law_text" "_law_text" (defArgs s_law_text) (defBody s_law_text) (defScope s_law_text) .none kV__law_text dc__law_text pm__law_text an__law_text cd__law_text ct__law_text), sl__law_text⟩)
    (c__law_text : PySem.W.codeIn K cd__law_text "_law_text" = true)
    (k__law_text : PySem.W.keepIn K (.ref f__law_text) = true)
    (a__law_digits : PySem.W.nsIn K mainGlobals "_law_digits" = some (some (.ref f__law_digits)))
    (l__law_digits : K.lookup f__law_digits = some ⟨oc__law_digits, od__law_digits, .func (PySem.W.fnOf "_law_digits" "_law_digits" (defArgs s_law_digits) (defBody s_law_digits) (defScope s_law_digits) .none kV__law_digits dc__law_digits pm__law_digits an__law_digits cd__law_digits ct__law_digits), sl__law_digits⟩)
    (c__law_digits : PySem.W.codeIn K cd__law_digits "_law_digits" = true)
    (k__law_digits : PySem.W.keepIn K (.ref f__law_digits) = true)
    (a__law_meant : PySem.W.nsIn K mainGlobals "_law_meant" = some (some (.ref f__law_meant)))
    (l__law_meant : K.lookup f__law_meant = some ⟨oc__law_meant, od__law_meant, .func (PySem.W.fnOf "_law_meant" "_law_meant" (defArgs s_law_meant) (defBody s_law_meant) (defScope s_law_meant) .none kV__law_meant dc__law_meant pm__law_meant an__law_meant cd__law_meant ct__law_meant), sl__law_meant⟩)
    (c__law_meant : PySem.W.codeIn K cd__law_meant "_law_meant" = true)
    (k__law_meant : PySem.W.keepIn K (.ref f__law_meant) = true)
    (a__law_bent : PySem.W.nsIn K mainGlobals "_law_bent" = some (some (.ref f__law_bent)))
    (l__law_bent : K.lookup f__law_bent = some ⟨oc__law_bent, od__law_bent, .func (PySem.W.fnOf "_law_bent" "_law_bent" (defArgs s_law_bent) (defBody s_law_bent) (defScope s_law_bent) .none kV__law_bent dc__law_bent pm__law_bent an__law_bent cd__law_bent ct__law_bent), sl__law_bent⟩)
    (c__law_bent : PySem.W.codeIn K cd__law_bent "_law_bent" = true)
    (k__law_bent : PySem.W.keepIn K (.ref f__law_bent) = true)
    (a__law_odd : PySem.W.nsIn K mainGlobals "_law_odd" = some (some (.ref f__law_odd)))
    (l__law_odd : K.lookup f__law_odd = some ⟨oc__law_odd, od__law_odd, .func (PySem.W.fnOf "_law_odd" "_law_odd" (defArgs s_law_odd) (defBody s_law_odd) (defScope s_law_odd) .none kV__law_odd dc__law_odd pm__law_odd an__law_odd cd__law_odd ct__law_odd), sl__law_odd⟩)
    (c__law_odd : PySem.W.codeIn K cd__law_odd "_law_odd" = true)
    (k__law_odd : PySem.W.keepIn K (.ref f__law_odd) = true)
    (a__law_long : PySem.W.nsIn K mainGlobals "_law_long" = some (some (.ref f__law_long)))
    (l__law_long : K.lookup f__law_long = some ⟨oc__law_long, od__law_long, .func (PySem.W.fnOf "_law_long" "_law_long" (defArgs s_law_long) (defBody s_law_long) (defScope s_law_long) .none kV__law_long dc__law_long pm__law_long an__law_long cd__law_long ct__law_long), sl__law_long⟩)
    (c__law_long : PySem.W.codeIn K cd__law_long "_law_long" = true)
    (k__law_long : PySem.W.keepIn K (.ref f__law_long) = true)
    (a__law_wide_text : PySem.W.nsIn K mainGlobals "_law_wide_text" = some (some (.ref f__law_wide_text)))
    (l__law_wide_text : K.lookup f__law_wide_text = some ⟨oc__law_wide_text, od__law_wide_text, .func (PySem.W.fnOf "_law_wide_text" "_law_wide_text" (defArgs s_law_wide_text) (defBody s_law_wide_text) (defScope s_law_wide_text) .none kV__law_wide_text dc__law_wide_text pm__law_wide_text an__law_wide_text cd__law_wide_text ct__law_wide_text), sl__law_wide_text⟩)
    (c__law_wide_text : PySem.W.codeIn K cd__law_wide_text "_law_wide_text" = true)
    (k__law_wide_text : PySem.W.keepIn K (.ref f__law_wide_text) = true)
    (a__law_string : PySem.W.nsIn K mainGlobals "_law_string" = some (some (.ref f__law_string)))
    (l__law_string : K.lookup f__law_string = some ⟨oc__law_string, od__law_string, .func (PySem.W.fnOf "_law_string" "_law_string" (defArgs s_law_string) (defBody s_law_string) (defScope s_law_string) .none kV__law_string dc__law_string pm__law_string an__law_string cd__law_string ct__law_string), sl__law_string⟩)
    (c__law_string : PySem.W.codeIn K cd__law_string "_law_string" = true)
    (k__law_string : PySem.W.keepIn K (.ref f__law_string) = true)
    (a__law_told : PySem.W.nsIn K mainGlobals "_law_told" = some (some (.ref f__law_told)))
    (l__law_told : K.lookup f__law_told = some ⟨oc__law_told, od__law_told, .func (PySem.W.fnOf "_law_told" "_law_told" (defArgs s_law_told) (defBody s_law_told) (defScope s_law_told) .none kV__law_told dc__law_told pm__law_told an__law_told cd__law_told ct__law_told), sl__law_told⟩)
    (c__law_told : PySem.W.codeIn K cd__law_told "_law_told" = true)
    (k__law_told : PySem.W.keepIn K (.ref f__law_told) = true)
    (a_law : PySem.W.nsIn K mainGlobals "law" = some (some (.ref f_law)))
    (l_law : K.lookup f_law = some ⟨oc_law, od_law, .func (PySem.W.fnOf "law" "law" (defArgs slaw) (defBody slaw) (defScope slaw) .none kV_law dc_law pm_law an_law cd_law ct_law), sl_law⟩)
    (c_law : PySem.W.codeIn K cd_law "law" = true)
    (k_law : PySem.W.keepIn K (.ref f_law) = true)
    : ∃ fd : FuncData, (∀ (s : Shared) (v : Value), BindsTo s fd ⟨[v], []⟩ [("script", v)]) ∧ ∀ base : Heap, K.In base → base.Ns mainGlobals mg → FnOk P w K mg base (L2.CX P w) 8 fa fd ["script"] (spLaw K) := by
  have e : fa = f_law := Value.ref.inj (Option.some.inj (hfa.symm.trans (PySem.W.mg_of X G a_law)))
  let T : Tx K mg := {
    b_ValueError := PySem.W.mg_none_of X G gB_ValueError,
    b_all := PySem.W.mg_none_of X G gB_all,
    b_bool := PySem.W.mg_none_of X G gB_bool,
    b_int := PySem.W.mg_none_of X G gB_int,
    b_isinstance := PySem.W.mg_none_of X G gB_isinstance,
    b_len := PySem.W.mg_none_of X G gB_len,
    b_min := PySem.W.mg_none_of X G gB_min,
    b_range := PySem.W.mg_none_of X G gB_range,
    b_str := PySem.W.mg_none_of X G gB_str,
    b_tuple := PySem.W.mg_none_of X G gB_tuple,
    w_MOST_DIGITS := w_MOST_DIGITS,
    v_MOST_DIGITS := PySem.W.mg_of X G v_MOST_DIGITS,
    c_BellError := C_BellError,
    gl_BellError := PySem.W.mg_of X G a_BellError,
    c_InvalidMoment := C_InvalidMoment,
    ci_InvalidMoment := I_InvalidMoment,
    di_InvalidMoment := PySem.W.fnOf "__init__" "InvalidMoment.__init__" (defArgs sInvalidMoment) (defBody sInvalidMoment) (defScope sInvalidMoment) .none kV_InvalidMoment dc_InvalidMoment pm_InvalidMoment an_InvalidMoment cd_InvalidMoment ct_InvalidMoment,
    e_InvalidMoment := ⟨PySem.W.mg_of X G a_InvalidMoment, ⟨⟨_, _, _, _, _, _, _, _, _, _, _, _, _, _, _, xl_InvalidMoment, rv_InvalidMoment⟩, sa_InvalidMoment, ex_InvalidMoment, ty_InvalidMoment, kC_InvalidMoment⟩, ⟨ga_InvalidMoment, gg_InvalidMoment, ex_InvalidMoment, hd_InvalidMoment⟩, cl_of hd_InvalidMoment, ca_InvalidMoment, xcn, xct, cm_InvalidMoment, (no1 no_InvalidMoment_value)⟩,
    i_InvalidMoment := ci_InvalidMoment,
    t_InvalidMoment := ti_InvalidMoment,
    u_InvalidMoment := fun_mk li_InvalidMoment cc_InvalidMoment ki_InvalidMoment,
    x_InvalidMoment := PySem.W.exm_ref ex_InvalidMoment hd_InvalidMoment ty_InvalidMoment ss_InvalidMoment,
    c_InvalidSpan := C_InvalidSpan,
    ci_InvalidSpan := I_InvalidSpan,
    di_InvalidSpan := PySem.W.fnOf "__init__" "InvalidSpan.__init__" (defArgs sInvalidSpan) (defBody sInvalidSpan) (defScope sInvalidSpan) .none kV_InvalidSpan dc_InvalidSpan pm_InvalidSpan an_InvalidSpan cd_InvalidSpan ct_InvalidSpan,
    e_InvalidSpan := ⟨PySem.W.mg_of X G a_InvalidSpan, ⟨⟨_, _, _, _, _, _, _, _, _, _, _, _, _, _, _, xl_InvalidSpan, rv_InvalidSpan⟩, sa_InvalidSpan, ex_InvalidSpan, ty_InvalidSpan, kC_InvalidSpan⟩, ⟨ga_InvalidSpan, gg_InvalidSpan, ex_InvalidSpan, hd_InvalidSpan⟩, cl_of hd_InvalidSpan, ca_InvalidSpan, xcn, xct, cm_InvalidSpan, (no1 no_InvalidSpan_value)⟩,
    i_InvalidSpan := ci_InvalidSpan,
    t_InvalidSpan := ti_InvalidSpan,
    u_InvalidSpan := fun_mk li_InvalidSpan cc_InvalidSpan ki_InvalidSpan,
    x_InvalidSpan := PySem.W.exm_ref ex_InvalidSpan hd_InvalidSpan ty_InvalidSpan ss_InvalidSpan,
    c_InvalidTable := C_InvalidTable,
    ci_InvalidTable := I_InvalidTable,
    di_InvalidTable := PySem.W.fnOf "__init__" "InvalidTable.__init__" (defArgs sInvalidTable) (defBody sInvalidTable) (defScope sInvalidTable) .none kV_InvalidTable dc_InvalidTable pm_InvalidTable an_InvalidTable cd_InvalidTable ct_InvalidTable,
    e_InvalidTable := ⟨PySem.W.mg_of X G a_InvalidTable, ⟨⟨_, _, _, _, _, _, _, _, _, _, _, _, _, _, _, xl_InvalidTable, rv_InvalidTable⟩, sa_InvalidTable, ex_InvalidTable, ty_InvalidTable, kC_InvalidTable⟩, ⟨ga_InvalidTable, gg_InvalidTable, ex_InvalidTable, hd_InvalidTable⟩, cl_of hd_InvalidTable, ca_InvalidTable, xcn, xct, cm_InvalidTable, (no1 no_InvalidTable_value)⟩,
    i_InvalidTable := ci_InvalidTable,
    t_InvalidTable := ti_InvalidTable,
    u_InvalidTable := fun_mk li_InvalidTable cc_InvalidTable ki_InvalidTable,
    x_InvalidTable := PySem.W.exm_ref ex_InvalidTable hd_InvalidTable ty_InvalidTable ss_InvalidTable,
    k_InvalidSpan_BellError := kit_ref hd_BellError ty_BellError kt_InvalidSpan_BellError ss_InvalidSpan,
    k_InvalidSpan_InvalidMoment := kit_ref hd_InvalidMoment ty_InvalidMoment kt_InvalidSpan_InvalidMoment ss_InvalidSpan,
    k_InvalidSpan_InvalidTable := kit_ref hd_InvalidTable ty_InvalidTable kt_InvalidSpan_InvalidTable ss_InvalidSpan,
    k_InvalidSpan_ValueError := kit_typ (by decide +kernel) kt_InvalidSpan_ValueError,
    a_is_whole := f_is_whole,
    d_is_whole := PySem.W.fnOf "is_whole" "is_whole" (defArgs sis_whole) (defBody sis_whole) (defScope sis_whole) .none kV_is_whole dc_is_whole pm_is_whole an_is_whole cd_is_whole ct_is_whole,
    g_is_whole := PySem.W.mg_of X G a_is_whole,
    u_is_whole := fun_mk l_is_whole c_is_whole k_is_whole,
    k_is_whole := k_is_whole,
    a_is_tuple_of := f_is_tuple_of,
    d_is_tuple_of := PySem.W.fnOf "is_tuple_of" "is_tuple_of" (defArgs sis_tuple_of) (defBody sis_tuple_of) (defScope sis_tuple_of) .none kV_is_tuple_of dc_is_tuple_of pm_is_tuple_of an_is_tuple_of cd_is_tuple_of ct_is_tuple_of,
    g_is_tuple_of := PySem.W.mg_of X G a_is_tuple_of,
    u_is_tuple_of := fun_mk l_is_tuple_of c_is_tuple_of k_is_tuple_of,
    k_is_tuple_of := k_is_tuple_of,
    a_is_numeral := f_is_numeral,
    d_is_numeral := PySem.W.fnOf "is_numeral" "is_numeral" (defArgs sis_numeral) (defBody sis_numeral) (defScope sis_numeral) .none kV_is_numeral dc_is_numeral pm_is_numeral an_is_numeral cd_is_numeral ct_is_numeral,
    g_is_numeral := PySem.W.mg_of X G a_is_numeral,
    u_is_numeral := fun_mk l_is_numeral c_is_numeral k_is_numeral,
    k_is_numeral := k_is_numeral,
    a_is_edge := f_is_edge,
    d_is_edge := PySem.W.fnOf "is_edge" "is_edge" (defArgs sis_edge) (defBody sis_edge) (defScope sis_edge) .none kV_is_edge dc_is_edge pm_is_edge an_is_edge cd_is_edge ct_is_edge,
    g_is_edge := PySem.W.mg_of X G a_is_edge,
    u_is_edge := fun_mk l_is_edge c_is_edge k_is_edge,
    k_is_edge := k_is_edge,
    a_is_span := f_is_span,
    d_is_span := PySem.W.fnOf "is_span" "is_span" (defArgs sis_span) (defBody sis_span) (defScope sis_span) .none kV_is_span dc_is_span pm_is_span an_is_span cd_is_span ct_is_span,
    g_is_span := PySem.W.mg_of X G a_is_span,
    u_is_span := fun_mk l_is_span c_is_span k_is_span,
    k_is_span := k_is_span,
    a_has_moment := f_has_moment,
    d_has_moment := PySem.W.fnOf "has_moment" "has_moment" (defArgs shas_moment) (defBody shas_moment) (defScope shas_moment) .none kV_has_moment dc_has_moment pm_has_moment an_has_moment cd_has_moment ct_has_moment,
    g_has_moment := PySem.W.mg_of X G a_has_moment,
    u_has_moment := fun_mk l_has_moment c_has_moment k_has_moment,
    k_has_moment := k_has_moment,
    a_span_text := f_span_text,
    d_span_text := PySem.W.fnOf "span_text" "span_text" (defArgs sspan_text) (defBody sspan_text) (defScope sspan_text) .none kV_span_text dc_span_text pm_span_text an_span_text cd_span_text ct_span_text,
    g_span_text := PySem.W.mg_of X G a_span_text,
    u_span_text := fun_mk l_span_text c_span_text k_span_text,
    k_span_text := k_span_text,
    a_read_span := f_read_span,
    d_read_span := PySem.W.fnOf "read_span" "read_span" (defArgs sread_span) (defBody sread_span) (defScope sread_span) .none kV_read_span dc_read_span pm_read_span an_read_span cd_read_span ct_read_span,
    g_read_span := PySem.W.mg_of X G a_read_span,
    u_read_span := fun_mk l_read_span c_read_span k_read_span,
    k_read_span := k_read_span,
    a_is_limit_text := f_is_limit_text,
    d_is_limit_text := PySem.W.fnOf "is_limit_text" "is_limit_text" (defArgs sis_limit_text) (defBody sis_limit_text) (defScope sis_limit_text) .none kV_is_limit_text dc_is_limit_text pm_is_limit_text an_is_limit_text cd_is_limit_text ct_is_limit_text,
    g_is_limit_text := PySem.W.mg_of X G a_is_limit_text,
    u_is_limit_text := fun_mk l_is_limit_text c_is_limit_text k_is_limit_text,
    k_is_limit_text := k_is_limit_text,
    a_span_in_text := f_span_in_text,
    d_span_in_text := PySem.W.fnOf "span_in_text" "span_in_text" (defArgs sspan_in_text) (defBody sspan_in_text) (defScope sspan_in_text) .none kV_span_in_text dc_span_in_text pm_span_in_text an_span_in_text cd_span_in_text ct_span_in_text,
    g_span_in_text := PySem.W.mg_of X G a_span_in_text,
    u_span_in_text := fun_mk l_span_in_text c_span_in_text k_span_in_text,
    k_span_in_text := k_span_in_text,
    a__law_box := f__law_box,
    d__law_box := PySem.W.fnOf "_law_box" "_law_box" (defArgs s_law_box) (defBody s_law_box) (defScope s_law_box) .none kV__law_box dc__law_box pm__law_box an__law_box cd__law_box ct__law_box,
    g__law_box := PySem.W.mg_of X G a__law_box,
    u__law_box := fun_mk l__law_box c__law_box k__law_box,
    k__law_box := k__law_box,
    a__law_draw := f__law_draw,
    d__law_draw := PySem.W.fnOf "_law_draw" "_law_draw" (defArgs s_law_draw) (defBody s_law_draw) (defScope s_law_draw) .none kV__law_draw dc__law_draw pm__law_draw an__law_draw cd__law_draw ct__law_draw,
    g__law_draw := PySem.W.mg_of X G a__law_draw,
    u__law_draw := fun_mk l__law_draw c__law_draw k__law_draw,
    k__law_draw := k__law_draw,
    a__law_pick := f__law_pick,
    d__law_pick := PySem.W.fnOf "_law_pick" "_law_pick" (defArgs s_law_pick) (defBody s_law_pick) (defScope s_law_pick) .none kV__law_pick dc__law_pick pm__law_pick an__law_pick cd__law_pick ct__law_pick,
    g__law_pick := PySem.W.mg_of X G a__law_pick,
    u__law_pick := fun_mk l__law_pick c__law_pick k__law_pick,
    k__law_pick := k__law_pick,
    a__law_same := f__law_same,
    d__law_same := PySem.W.fnOf "_law_same" "_law_same" (defArgs s_law_same) (defBody s_law_same) (defScope s_law_same) .none kV__law_same dc__law_same pm__law_same an__law_same cd__law_same ct__law_same,
    g__law_same := PySem.W.mg_of X G a__law_same,
    u__law_same := fun_mk l__law_same c__law_same k__law_same,
    k__law_same := k__law_same,
    a__law_limit := f__law_limit,
    d__law_limit := PySem.W.fnOf "_law_limit" "_law_limit" (defArgs s_law_limit) (defBody s_law_limit) (defScope s_law_limit) .none kV__law_limit dc__law_limit pm__law_limit an__law_limit cd__law_limit ct__law_limit,
    g__law_limit := PySem.W.mg_of X G a__law_limit,
    u__law_limit := fun_mk l__law_limit c__law_limit k__law_limit,
    k__law_limit := k__law_limit,
    a__law_span := f__law_span,
    d__law_span := PySem.W.fnOf "_law_span" "_law_span" (defArgs s_law_span) (defBody s_law_span) (defScope s_law_span) .none kV__law_span dc__law_span pm__law_span an__law_span cd__law_span ct__law_span,
    g__law_span := PySem.W.mg_of X G a__law_span,
    u__law_span := fun_mk l__law_span c__law_span k__law_span,
    k__law_span := k__law_span,
    a__law_text := f__law_text,
    d__law_text := PySem.W.fnOf "_law_text" "_law_text" (defArgs s_law_text) (defBody s_law_text) (defScope s_law_text) .none kV__law_text dc__law_text pm__law_text an__law_text cd__law_text ct__law_text,
    g__law_text := PySem.W.mg_of X G a__law_text,
    u__law_text := fun_mk l__law_text c__law_text k__law_text,
    k__law_text := k__law_text,
    a__law_digits := f__law_digits,
    d__law_digits := PySem.W.fnOf "_law_digits" "_law_digits" (defArgs s_law_digits) (defBody s_law_digits) (defScope s_law_digits) .none kV__law_digits dc__law_digits pm__law_digits an__law_digits cd__law_digits ct__law_digits,
    g__law_digits := PySem.W.mg_of X G a__law_digits,
    u__law_digits := fun_mk l__law_digits c__law_digits k__law_digits,
    k__law_digits := k__law_digits,
    a__law_meant := f__law_meant,
    d__law_meant := PySem.W.fnOf "_law_meant" "_law_meant" (defArgs s_law_meant) (defBody s_law_meant) (defScope s_law_meant) .none kV__law_meant dc__law_meant pm__law_meant an__law_meant cd__law_meant ct__law_meant,
    g__law_meant := PySem.W.mg_of X G a__law_meant,
    u__law_meant := fun_mk l__law_meant c__law_meant k__law_meant,
    k__law_meant := k__law_meant,
    a__law_bent := f__law_bent,
    d__law_bent := PySem.W.fnOf "_law_bent" "_law_bent" (defArgs s_law_bent) (defBody s_law_bent) (defScope s_law_bent) .none kV__law_bent dc__law_bent pm__law_bent an__law_bent cd__law_bent ct__law_bent,
    g__law_bent := PySem.W.mg_of X G a__law_bent,
    u__law_bent := fun_mk l__law_bent c__law_bent k__law_bent,
    k__law_bent := k__law_bent,
    a__law_odd := f__law_odd,
    d__law_odd := PySem.W.fnOf "_law_odd" "_law_odd" (defArgs s_law_odd) (defBody s_law_odd) (defScope s_law_odd) .none kV__law_odd dc__law_odd pm__law_odd an__law_odd cd__law_odd ct__law_odd,
    g__law_odd := PySem.W.mg_of X G a__law_odd,
    u__law_odd := fun_mk l__law_odd c__law_odd k__law_odd,
    k__law_odd := k__law_odd,
    a__law_long := f__law_long,
    d__law_long := PySem.W.fnOf "_law_long" "_law_long" (defArgs s_law_long) (defBody s_law_long) (defScope s_law_long) .none kV__law_long dc__law_long pm__law_long an__law_long cd__law_long ct__law_long,
    g__law_long := PySem.W.mg_of X G a__law_long,
    u__law_long := fun_mk l__law_long c__law_long k__law_long,
    k__law_long := k__law_long,
    a__law_wide_text := f__law_wide_text,
    d__law_wide_text := PySem.W.fnOf "_law_wide_text" "_law_wide_text" (defArgs s_law_wide_text) (defBody s_law_wide_text) (defScope s_law_wide_text) .none kV__law_wide_text dc__law_wide_text pm__law_wide_text an__law_wide_text cd__law_wide_text ct__law_wide_text,
    g__law_wide_text := PySem.W.mg_of X G a__law_wide_text,
    u__law_wide_text := fun_mk l__law_wide_text c__law_wide_text k__law_wide_text,
    k__law_wide_text := k__law_wide_text,
    a__law_string := f__law_string,
    d__law_string := PySem.W.fnOf "_law_string" "_law_string" (defArgs s_law_string) (defBody s_law_string) (defScope s_law_string) .none kV__law_string dc__law_string pm__law_string an__law_string cd__law_string ct__law_string,
    g__law_string := PySem.W.mg_of X G a__law_string,
    u__law_string := fun_mk l__law_string c__law_string k__law_string,
    k__law_string := k__law_string,
    a__law_told := f__law_told,
    d__law_told := PySem.W.fnOf "_law_told" "_law_told" (defArgs s_law_told) (defBody s_law_told) (defScope s_law_told) .none kV__law_told dc__law_told pm__law_told an__law_told cd__law_told ct__law_told,
    g__law_told := PySem.W.mg_of X G a__law_told,
    u__law_told := fun_mk l__law_told c__law_told k__law_told,
    k__law_told := k__law_told,
    a_law := f_law,
    d_law := PySem.W.fnOf "law" "law" (defArgs slaw) (defBody slaw) (defScope slaw) .none kV_law dc_law pm_law an_law cd_law ct_law,
    g_law := PySem.W.mg_of X G a_law,
    u_law := fun_mk l_law c_law k_law,
    k_law := k_law }
  exact ⟨T.d_law, fun s v => .of_eq rfl, fun base _ _ => by rw [e]; exact (ok_law T).imp (law_sp hF)⟩
end K05
end

section
set_option Elab.async false
set_option maxRecDepth 100000
open PySem PySem.W PyProof.Rows in
set_option maxRecDepth 100000 in
set_option maxHeartbeats 0 in
theorem PySem.Challenge.cw_bellrest_k05_span_texts_holds : PySem.Challenge.rw_bellrest_k05_span_texts.Holds := by
  w_on; o_law; k_head; (case hw => w_witness2)
  k_fill
  refine Z.walk_Z (l := PySem.Challenge.rw_bellrest_k05_span_texts) (k := 8) rfl rfl ⟨rfl, by decide, by decide⟩ (fun w h Y => PySem.W.kIn_of Y) ?F
  case F =>
    intro w mg fa h KX G hmg
    refine' K05.all_mk KX G hmg K05.holds ?gB_ValueError ?gB_all ?gB_bool ?gB_int ?gB_isinstance ?gB_len ?gB_min ?gB_range ?gB_str ?gB_tuple ?v_MOST_DIGITS ?a_BellError ?hd_BellError ?ty_BellError ?a_InvalidMoment ?xl_InvalidMoment ?rv_InvalidMoment ?sa_InvalidMoment ?ga_InvalidMoment ?gg_InvalidMoment ?ex_InvalidMoment ?ty_InvalidMoment ?kC_InvalidMoment ?hd_InvalidMoment ?ca_InvalidMoment ?cm_InvalidMoment ?no_InvalidMoment_value ?ci_InvalidMoment ?ti_InvalidMoment ?li_InvalidMoment ?cc_InvalidMoment ?ki_InvalidMoment ?ss_InvalidMoment ?a_InvalidSpan ?xl_InvalidSpan ?rv_InvalidSpan ?sa_InvalidSpan ?ga_InvalidSpan ?gg_InvalidSpan ?ex_InvalidSpan ?ty_InvalidSpan ?kC_InvalidSpan ?hd_InvalidSpan ?ca_InvalidSpan ?cm_InvalidSpan ?no_InvalidSpan_value ?ci_InvalidSpan ?ti_InvalidSpan ?li_InvalidSpan ?cc_InvalidSpan ?ki_InvalidSpan ?ss_InvalidSpan ?a_InvalidTable ?xl_InvalidTable ?rv_InvalidTable ?sa_InvalidTable ?ga_InvalidTable ?gg_InvalidTable ?ex_InvalidTable ?ty_InvalidTable ?kC_InvalidTable ?hd_InvalidTable ?ca_InvalidTable ?cm_InvalidTable ?no_InvalidTable_value ?ci_InvalidTable ?ti_InvalidTable ?li_InvalidTable ?cc_InvalidTable ?ki_InvalidTable ?ss_InvalidTable ?xcn ?xct ?kt_InvalidSpan_BellError ?kt_InvalidSpan_InvalidMoment ?kt_InvalidSpan_InvalidTable ?kt_InvalidSpan_ValueError ?a_is_whole ?l_is_whole ?c_is_whole ?k_is_whole ?a_is_tuple_of ?l_is_tuple_of ?c_is_tuple_of ?k_is_tuple_of ?a_is_numeral ?l_is_numeral ?c_is_numeral ?k_is_numeral ?a_is_edge ?l_is_edge ?c_is_edge ?k_is_edge ?a_is_span ?l_is_span ?c_is_span ?k_is_span ?a_has_moment ?l_has_moment ?c_has_moment ?k_has_moment ?a_span_text ?l_span_text ?c_span_text ?k_span_text ?a_read_span ?l_read_span ?c_read_span ?k_read_span ?a_is_limit_text ?l_is_limit_text ?c_is_limit_text ?k_is_limit_text ?a_span_in_text ?l_span_in_text ?c_span_in_text ?k_span_in_text ?a__law_box ?l__law_box ?c__law_box ?k__law_box ?a__law_draw ?l__law_draw ?c__law_draw ?k__law_draw ?a__law_pick ?l__law_pick ?c__law_pick ?k__law_pick ?a__law_same ?l__law_same ?c__law_same ?k__law_same ?a__law_limit ?l__law_limit ?c__law_limit ?k__law_limit ?a__law_span ?l__law_span ?c__law_span ?k__law_span ?a__law_text ?l__law_text ?c__law_text ?k__law_text ?a__law_digits ?l__law_digits ?c__law_digits ?k__law_digits ?a__law_meant ?l__law_meant ?c__law_meant ?k__law_meant ?a__law_bent ?l__law_bent ?c__law_bent ?k__law_bent ?a__law_odd ?l__law_odd ?c__law_odd ?k__law_odd ?a__law_long ?l__law_long ?c__law_long ?k__law_long ?a__law_wide_text ?l__law_wide_text ?c__law_wide_text ?k__law_wide_text ?a__law_string ?l__law_string ?c__law_string ?k__law_string ?a__law_told ?l__law_told ?c__law_told ?k__law_told ?a_law ?l_law ?c_law ?k_law
    (case gB_ValueError => k_is)
    (case gB_all => k_is)
    (case gB_bool => k_is)
    (case gB_int => k_is)
    (case gB_isinstance => k_is)
    (case gB_len => k_is)
    (case gB_min => k_is)
    (case gB_range => k_is)
    (case gB_str => k_is)
    (case gB_tuple => k_is)
    (case v_MOST_DIGITS => k_is)
    (case a_BellError => k_is)
    (case hd_BellError => k_is)
    (case ty_BellError => k_is)
    (case a_InvalidMoment => k_is)
    (case xl_InvalidMoment => k_is)
    (case rv_InvalidMoment => decide +kernel)
    (case sa_InvalidMoment => k_is)
    (case ga_InvalidMoment => k_is)
    (case gg_InvalidMoment => k_is)
    (case ex_InvalidMoment => k_is)
    (case ty_InvalidMoment => k_is)
    (case kC_InvalidMoment => k_is)
    (case hd_InvalidMoment => k_is)
    (case ca_InvalidMoment => k_is)
    (case cm_InvalidMoment => k_is)
    (case no_InvalidMoment_value => k_is)
    (case ci_InvalidMoment => k_is)
    (case ti_InvalidMoment => k_is)
    (case li_InvalidMoment => k_is)
    (case cc_InvalidMoment => k_is)
    (case ki_InvalidMoment => k_is)
    (case ss_InvalidMoment => k_is)
    (case a_InvalidSpan => k_is)
    (case xl_InvalidSpan => k_is)
    (case rv_InvalidSpan => decide +kernel)
    (case sa_InvalidSpan => k_is)
    (case ga_InvalidSpan => k_is)
    (case gg_InvalidSpan => k_is)
    (case ex_InvalidSpan => k_is)
    (case ty_InvalidSpan => k_is)
    (case kC_InvalidSpan => k_is)
    (case hd_InvalidSpan => k_is)
    (case ca_InvalidSpan => k_is)
    (case cm_InvalidSpan => k_is)
    (case no_InvalidSpan_value => k_is)
    (case ci_InvalidSpan => k_is)
    (case ti_InvalidSpan => k_is)
    (case li_InvalidSpan => k_is)
    (case cc_InvalidSpan => k_is)
    (case ki_InvalidSpan => k_is)
    (case ss_InvalidSpan => k_is)
    (case a_InvalidTable => k_is)
    (case xl_InvalidTable => k_is)
    (case rv_InvalidTable => decide +kernel)
    (case sa_InvalidTable => k_is)
    (case ga_InvalidTable => k_is)
    (case gg_InvalidTable => k_is)
    (case ex_InvalidTable => k_is)
    (case ty_InvalidTable => k_is)
    (case kC_InvalidTable => k_is)
    (case hd_InvalidTable => k_is)
    (case ca_InvalidTable => k_is)
    (case cm_InvalidTable => k_is)
    (case no_InvalidTable_value => k_is)
    (case ci_InvalidTable => k_is)
    (case ti_InvalidTable => k_is)
    (case li_InvalidTable => k_is)
    (case cc_InvalidTable => k_is)
    (case ki_InvalidTable => k_is)
    (case ss_InvalidTable => k_is)
    (case xcn => k_is)
    (case xct => k_is)
    (case kt_InvalidSpan_BellError => k_is)
    (case kt_InvalidSpan_InvalidMoment => k_is)
    (case kt_InvalidSpan_InvalidTable => k_is)
    (case kt_InvalidSpan_ValueError => k_is)
    (case a_is_whole => k_is)
    (case l_is_whole => k_is)
    (case c_is_whole => k_is)
    (case k_is_whole => k_is)
    (case a_is_tuple_of => k_is)
    (case l_is_tuple_of => k_is)
    (case c_is_tuple_of => k_is)
    (case k_is_tuple_of => k_is)
    (case a_is_numeral => k_is)
    (case l_is_numeral => k_is)
    (case c_is_numeral => k_is)
    (case k_is_numeral => k_is)
    (case a_is_edge => k_is)
    (case l_is_edge => k_is)
    (case c_is_edge => k_is)
    (case k_is_edge => k_is)
    (case a_is_span => k_is)
    (case l_is_span => k_is)
    (case c_is_span => k_is)
    (case k_is_span => k_is)
    (case a_has_moment => k_is)
    (case l_has_moment => k_is)
    (case c_has_moment => k_is)
    (case k_has_moment => k_is)
    (case a_span_text => k_is)
    (case l_span_text => k_is)
    (case c_span_text => k_is)
    (case k_span_text => k_is)
    (case a_read_span => k_is)
    (case l_read_span => k_is)
    (case c_read_span => k_is)
    (case k_read_span => k_is)
    (case a_is_limit_text => k_is)
    (case l_is_limit_text => k_is)
    (case c_is_limit_text => k_is)
    (case k_is_limit_text => k_is)
    (case a_span_in_text => k_is)
    (case l_span_in_text => k_is)
    (case c_span_in_text => k_is)
    (case k_span_in_text => k_is)
    (case a__law_box => k_is)
    (case l__law_box => k_is)
    (case c__law_box => k_is)
    (case k__law_box => k_is)
    (case a__law_draw => k_is)
    (case l__law_draw => k_is)
    (case c__law_draw => k_is)
    (case k__law_draw => k_is)
    (case a__law_pick => k_is)
    (case l__law_pick => k_is)
    (case c__law_pick => k_is)
    (case k__law_pick => k_is)
    (case a__law_same => k_is)
    (case l__law_same => k_is)
    (case c__law_same => k_is)
    (case k__law_same => k_is)
    (case a__law_limit => k_is)
    (case l__law_limit => k_is)
    (case c__law_limit => k_is)
    (case k__law_limit => k_is)
    (case a__law_span => k_is)
    (case l__law_span => k_is)
    (case c__law_span => k_is)
    (case k__law_span => k_is)
    (case a__law_text => k_is)
    (case l__law_text => k_is)
    (case c__law_text => k_is)
    (case k__law_text => k_is)
    (case a__law_digits => k_is)
    (case l__law_digits => k_is)
    (case c__law_digits => k_is)
    (case k__law_digits => k_is)
    (case a__law_meant => k_is)
    (case l__law_meant => k_is)
    (case c__law_meant => k_is)
    (case k__law_meant => k_is)
    (case a__law_bent => k_is)
    (case l__law_bent => k_is)
    (case c__law_bent => k_is)
    (case k__law_bent => k_is)
    (case a__law_odd => k_is)
    (case l__law_odd => k_is)
    (case c__law_odd => k_is)
    (case k__law_odd => k_is)
    (case a__law_long => k_is)
    (case l__law_long => k_is)
    (case c__law_long => k_is)
    (case k__law_long => k_is)
    (case a__law_wide_text => k_is)
    (case l__law_wide_text => k_is)
    (case c__law_wide_text => k_is)
    (case k__law_wide_text => k_is)
    (case a__law_string => k_is)
    (case l__law_string => k_is)
    (case c__law_string => k_is)
    (case k__law_string => k_is)
    (case a__law_told => k_is)
    (case l__law_told => k_is)
    (case c__law_told => k_is)
    (case k__law_told => k_is)
    (case a_law => k_is)
    (case l_law => k_is)
    (case c_law => k_is)
    (case k_law => k_is)
#print axioms PySem.Challenge.cw_bellrest_k05_span_texts_holds
end
