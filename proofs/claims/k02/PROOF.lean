import PyProof.Rows.All
import Wide.All
import OpenK.AllK
import Wide.FinOn
import HandS.ForExc
import HandS.Comp
import HandS.Iter
import HandS.Text
import HandS.Wide
import HandS.AnyAll
import HandS.IsInst
import HandS.Style
import HandS.Gcd
import HandS.Deep
import HandS.CallSlots
import HandS.TupAny
import HandS.StrMore
import HandS.Walk
import HandS.Zip
import HandS.Rev
import HandS.ExcInit
import HandS.ExcCtx
import HandS.HotCalls
import HandS.EndTab
import HandS.Defaults
import HandS.Ends
import HandS.ExcIs
import HandS.ExcField
import KE.KExcIs
import HandS.Star
import HandS.EndBits
import HandS.EndOwn
import HandS.RevTup
import HandS.FStr
import HandS.RaiseMore
import KE.GoesMore
import KE.GoesEnum
import KE.GoesEnumKw
import HandS.SortKw
import HandS.Strs
import HandS.SetFor
import HandS.More
import KE.DataCmp
import KE.DataMinMax
import HandS.GenList
import HandS.WideBits
import PyProof.ReprRoads
import PySem.Challenge.RW_bellrest_k02_judges_of_values
section
set_option linter.all false
/-! the tables of code objects that defs with generator expressions grow: each law's own -/
namespace Z
def tabs : List PySem.Addr := [107, 93, 100]
end Z
end

section
set_option Elab.async false
set_option linter.all false
set_option maxRecDepth 100000
/-! Z: plain data D, a store of cells, and denotations of expressions and statements over them; each is held against the layer's readings once. -/
namespace Z
open PySem PySem.Spec PyProof.Rows L2

/-- plain data; ref n: the n-th cell of the store -/
inductive D where
  | non | bl (b : Bool) | int (i : Int) | str (x : Str) | tup (xs : List D) | lst (xs : List D) | frz (xs : List D) | ref (n : Nat)
  | err (a dd : Addr) (ks : List Str) (xs : List D)

inductive Cell where
  | lst (xs : List D)

abbrev Sto := List Cell
abbrev Env := List (Option D)

inductive R (α : Type) where
  | ok (a : α) (S : Sto)
  | ex (c : Str) (fs : List (Str × D)) (S : Sto)
  | bad

def R.bind {α β : Type} (r : R α) (k : α → Sto → R β) : R β := match r with
  | .ok a S => k a S
  | .ex c fs S => .ex c fs S
  | .bad => .bad
theorem R.bind_ok {α β : Type} {a : α} {S : Sto} {k : α → Sto → R β} : (R.ok a S).bind k = k a S := rfl
theorem R.bind_ex {α β : Type} {c : Str} {fs : List (Str × D)} {S : Sto} {k : α → Sto → R β} : (R.ex c fs S : R α).bind k = .ex c fs S := rfl
theorem R.bind_bad {α β : Type} {k : α → Sto → R β} : (R.bad : R α).bind k = .bad := rfl

/-! ### sizes that are asked (never reckoned out) -/
def Fit (n : Nat) : Prop := n ≤ sizeLine
def FitS (n : Nat) : Prop := n < sizeLine
noncomputable instance (n : Nat) : Decidable (Fit n) := Classical.propDecidable _
noncomputable instance (n : Nat) : Decidable (FitS n) := Classical.propDecidable _

/-! ### data and the heap -/
/-- the cells' addresses; addresses that no data may lean on -/
structure Em where
  c : List Addr
  b : List Addr
def Em.has (ι : Em) (a : Addr) : Prop := a ∈ ι.c ∨ a ∈ ι.b
/-- a tuple, a list of the written part -/
def StT (K : PySem.W.Frag) (a : Addr) (xs : List V) : Prop :=
  ∃ (o : Obj) (its : Array Value) (n : Nat), K.lookup a = some o ∧ o.cls = .type "tuple" ∧ o.data = .seq its n ∧ its.size ≤ sizeLine ∧ Vals xs its.toList
def StL (K : PySem.W.Frag) (a : Addr) (xs : List V) : Prop :=
  ∃ (o : Obj) (its : Array Value) (n : Nat), K.lookup a = some o ∧ o.cls = .type "list" ∧ o.dict = none ∧ o.data = .seq its n ∧ its.size ≤ sizeLine ∧ Vals xs its.toList

mutual
inductive Rp (K : PySem.W.Frag) (H : Hp) (ι : Em) : V → D → Prop
  | non : Rp K H ι .non .non
  | bl (b : Bool) : Rp K H ι (.bl b) (.bl b)
  | int (i : Int) : Rp K H ι (.int i) (.int i)
  | str (x : Str) : Rp K H ι (.str x) (.str x)
  | tup {a : Addr} {vs : List V} {ds : List D} : ¬ ι.has a → H a = some (.tup vs) → Rps K H ι vs ds → Rp K H ι (.ref a) (.tup ds)
  | tupK {a : Addr} {vs : List V} {ds : List D} : StT K a vs → Rps K H ι vs ds → Rp K H ι (.ref a) (.tup ds)
  | lst {a : Addr} {vs : List V} {ds : List D} : ¬ ι.has a → H a = some (.lst vs) → Rps K H ι vs ds → Rp K H ι (.ref a) (.lst ds)
  | frz {a : Addr} {o : Obj} {vs : List V} {ds : List D} : ¬ ι.has a → H a = some (.frz o (.lst vs)) → Rps K H ι vs ds → Rp K H ι (.ref a) (.frz ds)
  | frzK {a : Addr} {vs : List V} {ds : List D} : StL K a vs → Rps K H ι vs ds → Rp K H ι (.ref a) (.frz ds)
  | ref {a : Addr} {n : Nat} : ι.c[n]? = some a → Rp K H ι (.ref a) (.ref n)
  | err {a dd : Addr} {ks : List Str} {vs : List V} {ds : List D} : ¬ ι.has dd → H dd = some (.xd (ks.zip vs)) → Rps K H ι vs ds → Rp K H ι (.ref a) (.err a dd ks ds)
inductive Rps (K : PySem.W.Frag) (H : Hp) (ι : Em) : List V → List D → Prop
  | nil : Rps K H ι [] []
  | cons {v : V} {vs : List V} {d : D} {ds : List D} : Rp K H ι v d → Rps K H ι vs ds → Rps K H ι (v :: vs) (d :: ds)
end

/-- a table may have grown -/
def Gr (o o' : HO) : Prop := o' = o ∨ ∃ ps more : Array Value, o = .tbl ps ∧ o' = .tbl (ps ++ more)
theorem Gr.trans {a b c : HO} (x : Gr a b) (y : Gr b c) : Gr a c := by
  rcases x with rfl | ⟨p, m, rfl, rfl⟩
  · exact y
  · rcases y with rfl | ⟨p', m', e, rfl⟩
    · exact .inr ⟨p, m, rfl, rfl⟩
    · cases e
      exact .inr ⟨p, m ++ m', rfl, by rw [Array.append_assoc]⟩
theorem tab_upd {H : Hp} {p P : Addr} {o : HO} (t : GxR.TabG H P) (ne : P ≠ p) : GxR.TabG (upd H p o) P := let ⟨ps, e, h⟩ := t; ⟨ps, (upd_ne ne).trans e, h⟩
theorem tab_ne {H : Hp} {p P : Addr} (t : GxR.TabG H P) (hp : H p = none) : P ≠ p := fun z => by
  obtain ⟨ps, e, _⟩ := t
  rw [z, hp] at e; cases e
/-- the heap goes on: new cells, grown tables, all else as it stood -/
structure Ext (ι : Em) (H : Hp) (ι' : Em) (H' : Hp) : Prop where
  ban : ∃ nb, ι'.b = nb ++ ι.b ∧ ∀ p ∈ nb, H p = none
  pre : ∃ new, ι'.c = ι.c ++ new ∧ ∀ p ∈ new, H p = none
  keep0 : ∀ a o, a ∉ ι.c → H a = some o → ∃ o', H' a = some o' ∧ Gr o o'
theorem Ext.mk3 {ι ι' : Em} {H H' : Hp} (b : ∃ nb, ι'.b = nb ++ ι.b ∧ ∀ p ∈ nb, H p = none) (p : ∃ new, ι'.c = ι.c ++ new ∧ ∀ p ∈ new, H p = none) (k : ∀ a o, a ∉ ι.c → H a = some o → H' a = some o) : Ext ι H ι' H' := ⟨b, p, fun a o hc h => ⟨o, k a o hc h, .inl rfl⟩⟩
theorem Ext.keep {ι ι' : Em} {H H' : Hp} (e : Ext ι H ι' H') (a : Addr) (o : HO) (hc : a ∉ ι.c) (h : H a = some o) (ht : ∀ ps, o ≠ .tbl ps := by intro ps z; cases z) : H' a = some o := by
  obtain ⟨o', k, g⟩ := e.keep0 a o hc h
  rcases g with g | ⟨ps, more, g, _⟩
  · rw [← g]; exact k
  · exact absurd g (ht ps)

theorem Ext.refl {ι : Em} {H : Hp} : Ext ι H ι H := .mk3 ⟨[], rfl, by simp⟩ ⟨[], by simp, by simp⟩ fun _ _ _ h => h
theorem Ext.outC {ι ι' : Em} {H H' : Hp} {a : Addr} {o : HO} (e : Ext ι H ι' H') (h : a ∉ ι.c) (ha : H a = some o) : a ∉ ι'.c := by
  obtain ⟨new, e1, hn⟩ := e.pre
  rw [e1]
  intro hm
  rcases List.mem_append.mp hm with hm | hm
  · exact h hm
  · rw [hn a hm] at ha; cases ha
theorem Ext.out {ι ι' : Em} {H H' : Hp} {a : Addr} {o : HO} (e : Ext ι H ι' H') (h : ¬ ι.has a) (ha : H a = some o) : ¬ ι'.has a := by
  rintro (hm | hm)
  · exact e.outC (fun z => h (.inl z)) ha hm
  · obtain ⟨nb, e2, hn⟩ := e.ban
    rw [e2] at hm
    rcases List.mem_append.mp hm with hm | hm
    · rw [hn a hm] at ha; cases ha
    · exact h (.inr hm)
theorem Ext.back {ι ι' : Em} {H H' : Hp} {a : Addr} (e : Ext ι H ι' H') (hd : ∀ b ∈ ι.c, H' b ≠ none) (h : H' a = none) : H a = none := by
  cases q : H a with
  | none => rfl
  | some o =>
    by_cases hm : a ∈ ι.c
    · exact absurd h (hd a hm)
    · obtain ⟨o', k, _⟩ := e.keep0 a o hm q
      rw [k] at h; cases h
theorem Ext.get {ι ι' : Em} {H H' : Hp} {a : Addr} {n : Nat} (e : Ext ι H ι' H') (h : ι.c[n]? = some a) : ι'.c[n]? = some a := by
  obtain ⟨new, e1, _⟩ := e.pre
  have hl : n < ι.c.length := (List.getElem?_eq_some_iff.mp h).1
  rw [e1, List.getElem?_append_left hl]; exact h

mutual
theorem Rp.ext {K : PySem.W.Frag} {ι ι' : Em} {H H' : Hp} (e : Ext ι H ι' H') : ∀ {v : V} {d : D}, Rp K H ι v d → Rp K H' ι' v d
  | _, _, .non => .non
  | _, _, .bl b => .bl b
  | _, _, .int i => .int i
  | _, _, .str x => .str x
  | _, _, .tup hn hr hs => .tup (e.out hn hr) (e.keep _ _ (fun z => hn (.inl z)) hr) (Rps.ext e hs)
  | _, _, .tupK h hs => .tupK h (Rps.ext e hs)
  | _, _, .lst hn hr hs => .lst (e.out hn hr) (e.keep _ _ (fun z => hn (.inl z)) hr) (Rps.ext e hs)
  | _, _, .frz hn hr hs => .frz (e.out hn hr) (e.keep _ _ (fun z => hn (.inl z)) hr) (Rps.ext e hs)
  | _, _, .frzK h hs => .frzK h (Rps.ext e hs)
  | _, _, .ref h => .ref (e.get h)
  | _, _, .err hn hr hs => .err (e.out hn hr) (e.keep _ _ (fun z => hn (.inl z)) hr) (Rps.ext e hs)
theorem Rps.ext {K : PySem.W.Frag} {ι ι' : Em} {H H' : Hp} (e : Ext ι H ι' H') : ∀ {vs : List V} {ds : List D}, Rps K H ι vs ds → Rps K H' ι' vs ds
  | _, _, .nil => .nil
  | _, _, .cons h hs => .cons (Rp.ext e h) (Rps.ext e hs)
end
section
variable {K : PySem.W.Frag} {ι ι' : Em} {H H' : Hp}
theorem Rps.length {vs : List V} {ds : List D} (h : Rps K H ι vs ds) : vs.length = ds.length := by
  induction vs generalizing ds with
  | nil => cases h; rfl
  | cons v vs ih => cases h with | cons h hs => simp [ih hs]
theorem Rps.get {vs : List V} {ds : List D} {i : Nat} {d : D} (h : Rps K H ι vs ds) (e : ds[i]? = some d) : ∃ v, vs[i]? = some v ∧ Rp K H ι v d := by
  induction vs generalizing ds i with
  | nil => cases h; simp at e
  | cons v vs ih =>
    cases h with
    | cons h hs =>
      cases i with
      | zero => simp at e; subst e; exact ⟨v, by simp, h⟩
      | succ i => simpa using ih hs (by simpa using e)
theorem Rps.getV {vs : List V} {ds : List D} {i : Nat} {v : V} (h : Rps K H ι vs ds) (e : vs[i]? = some v) : ∃ d, ds[i]? = some d ∧ Rp K H ι v d := by
  have hl := h.length
  have hi : i < ds.length := by rw [← hl]; exact (List.getElem?_eq_some_iff.mp e).1
  obtain ⟨w, e1, r⟩ := h.get (List.getElem?_eq_getElem hi)
  rw [e] at e1; cases e1
  exact ⟨_, List.getElem?_eq_getElem hi, r⟩
theorem Rps.append {vs ws : List V} {ds es : List D} (h : Rps K H ι vs ds) (h2 : Rps K H ι ws es) : Rps K H ι (vs ++ ws) (ds ++ es) := by
  induction vs generalizing ds with
  | nil => cases h; simpa using h2
  | cons v vs ih => cases h with | cons h hs => exact .cons h (ih hs)
theorem Rps.take {vs : List V} {ds : List D} (n : Nat) (h : Rps K H ι vs ds) : Rps K H ι (vs.take n) (ds.take n) := by
  induction n generalizing vs ds with
  | zero => simpa using Rps.nil
  | succ n ih => cases h with
    | nil => simpa using Rps.nil
    | cons h hs => simpa using Rps.cons h (ih hs)
theorem Rps.drop {vs : List V} {ds : List D} (n : Nat) (h : Rps K H ι vs ds) : Rps K H ι (vs.drop n) (ds.drop n) := by
  induction n generalizing vs ds with
  | zero => simpa using h
  | succ n ih => cases h with
    | nil => simpa using Rps.nil
    | cons h hs => simpa using ih hs
theorem Rps.reverse {vs : List V} {ds : List D} (h : Rps K H ι vs ds) : Rps K H ι vs.reverse ds.reverse := by
  induction vs generalizing ds with
  | nil => cases h; simpa using Rps.nil
  | cons v vs ih => cases h with
    | cons h hs => simpa using (ih hs).append (.cons h .nil)
theorem Rps.set {vs : List V} {ds : List D} {v : V} {d : D} (n : Nat) (h : Rps K H ι vs ds) (r : Rp K H ι v d) : Rps K H ι (vs.set n v) (ds.set n d) := by
  induction vs generalizing ds n with
  | nil => cases h; simpa using Rps.nil
  | cons w vs ih => cases h with
    | cons h hs => cases n with
      | zero => simpa using Rps.cons r hs
      | succ n => simpa using Rps.cons h (ih n hs)
/-- a list of data that is read -/
inductive SeqOf (K : PySem.W.Frag) (H : Hp) (ι : Em) (a : Addr) (vs : List V) : Prop
  | l : SqL K H a vs → SeqOf K H ι a vs
  | t : SqT K H a vs → SeqOf K H ι a vs
theorem Rp.tup_inv {v : V} {ds : List D} (h : Rp K H ι v (.tup ds)) : ∃ a vs, v = .ref a ∧ SqT K H a vs ∧ Rps K H ι vs ds := by
  cases h with
  | tup h1 h2 h3 => exact ⟨_, _, rfl, .inl (.inl h2), h3⟩
  | tupK h1 h3 => exact ⟨_, _, rfl, .inr h1, h3⟩
theorem Rp.lst_inv {v : V} {ds : List D} (h : Rp K H ι v (.lst ds)) : ∃ a vs, v = .ref a ∧ ¬ ι.has a ∧ H a = some (.lst vs) ∧ Rps K H ι vs ds := by
  cases h with
  | lst h1 h2 h3 => exact ⟨_, _, rfl, h1, h2, h3⟩
theorem Rp.frz_inv {v : V} {ds : List D} (h : Rp K H ι v (.frz ds)) : ∃ a vs, v = .ref a ∧ SqL K H a vs ∧ Rps K H ι vs ds := by
  cases h with
  | frz h1 h2 h3 => exact ⟨_, _, rfl, .inl (.inr ⟨_, h2⟩), h3⟩
  | frzK h1 h3 => exact ⟨_, _, rfl, .inr h1, h3⟩
theorem Rp.int_inv {v : V} {i : Int} (h : Rp K H ι v (.int i)) : v = .int i := by cases h; rfl
theorem Rp.bl_inv {v : V} {i : Bool} (h : Rp K H ι v (.bl i)) : v = .bl i := by cases h; rfl
theorem Rp.str_inv {v : V} {i : Str} (h : Rp K H ι v (.str i)) : v = .str i := by cases h; rfl
theorem Rp.non_inv {v : V} (h : Rp K H ι v .non) : v = .non := by cases h; rfl
theorem Rp.ref_inv {v : V} {n : Nat} (h : Rp K H ι v (.ref n)) : ∃ a, v = .ref a ∧ ι.c[n]? = some a := by cases h with | ref h => exact ⟨_, rfl, h⟩
end

/-! ### the store -/
def CellOk (K : PySem.W.Frag) (H : Hp) (ι : Em) (a : Addr) : Cell → Prop
  | .lst ds => ∃ vs, H a = some (.lst vs) ∧ Rps K H ι vs ds
structure Sr (K : PySem.W.Frag) (H : Hp) (ι : Em) (S : Sto) : Prop where
  len : ι.c.length = S.length
  nd : ι.c.Nodup
  ban : ∀ b ∈ ι.b, H b ≠ none
  cell : ∀ (n : Nat) (a : Addr) (c : Cell), ι.c[n]? = some a → S[n]? = some c → CellOk K H ι a c
  tab : ∀ P ∈ tabs, GxR.TabG H P ∧ ¬ ι.has P
section
variable {K : PySem.W.Frag} {ι ι' ι2 : Em} {H H' H2 : Hp} {S S' : Sto}
theorem CellOk.some {a : Addr} {c : Cell} (h : CellOk K H ι a c) : H a ≠ none := by
  cases c with
  | lst ds => obtain ⟨vs, e, _⟩ := h; rw [e]; simp
theorem Sr.dom (h : Sr K H ι S) : ∀ b ∈ ι.c, H b ≠ none := fun b hb => by
  obtain ⟨n, hn, e⟩ := List.getElem_of_mem hb
  have h2 : n < S.length := by rw [← h.len]; exact hn
  have e1 : ι.c[n]? = some b := by rw [List.getElem?_eq_getElem hn, e]
  exact (h.cell n b _ e1 (List.getElem?_eq_getElem h2)).some
theorem Sr.outC (h : Sr K H ι S) {p : Addr} (hp : H p = none) : p ∉ ι.c := fun hm => h.dom p hm hp
theorem Sr.out (h : Sr K H ι S) {p : Addr} (hp : H p = none) : ¬ ι.has p := by
  rintro (hm | hm)
  · exact h.dom p hm hp
  · exact h.ban p hm hp
theorem Ext.trans (a : Ext ι H ι' H') (b : Ext ι' H' ι2 H2) (hd : ∀ b ∈ ι.c, H' b ≠ none) : Ext ι H ι2 H2 := by
  obtain ⟨n1, e1, f1⟩ := a.pre
  obtain ⟨n2, e2, f2⟩ := b.pre
  obtain ⟨m1, g1, k1⟩ := a.ban
  obtain ⟨m2, g2, k2⟩ := b.ban
  refine ⟨⟨m2 ++ m1, by rw [g2, g1, List.append_assoc], fun p hp => ?_⟩, ⟨n1 ++ n2, by rw [e2, e1, List.append_assoc], fun p hp => ?_⟩, fun c o hc ho => let ⟨o1, k1, g1⟩ := a.keep0 c o hc ho; let ⟨o2, k2, g2⟩ := b.keep0 c o1 (a.outC hc ho) k1; ⟨o2, k2, g1.trans g2⟩⟩
  · rcases List.mem_append.mp hp with hp | hp
    · exact a.back hd (k2 p hp)
    · exact k1 p hp
  · rcases List.mem_append.mp hp with hp | hp
    · exact f1 p hp
    · exact a.back hd (f2 p hp)
theorem Ext.dom (a : Ext ι H ι' H') (s : Sr K H' ι' S') : ∀ b ∈ ι.c, H' b ≠ none := fun b hb => by
  obtain ⟨n1, e1, _⟩ := a.pre
  exact s.dom b (by rw [e1]; exact List.mem_append_left _ hb)
theorem Ext.tr (a : Ext ι H ι' H') (s : Sr K H' ι' S') (b : Ext ι' H' ι2 H2) : Ext ι H ι2 H2 := a.trans b (a.dom s)
/-- a new object that is no cell -/
theorem Ext.new {p : Addr} {o : HO} (hp : H p = none) : Ext ι H ι (upd H p o) := .mk3 ⟨[], rfl, by simp⟩ ⟨[], by simp, by simp⟩ fun a u _ h => by rw [upd_ne (ne_of_none h hp)]; exact h
theorem CellOk.ext {a : Addr} {c : Cell} (e : Ext ι H ι' H') (h : CellOk K H ι a c) (k : H' a = H a) : CellOk K H' ι' a c := by
  cases c with
  | lst ds => obtain ⟨vs, e1, r⟩ := h; exact ⟨vs, by rw [k]; exact e1, r.ext e⟩
theorem upd_some {p b : Addr} {o : HO} (h : H b ≠ none) : upd H p o b ≠ none := by
  by_cases e : b = p
  · subst e; rw [upd_same]; simp
  · rw [upd_ne e]; exact h
theorem Sr.new {p : Addr} {o : HO} (h : Sr K H ι S) (hp : H p = none) : Sr K (upd H p o) ι S := ⟨h.len, h.nd, fun b hb => upd_some (h.ban b hb), fun n a c e1 e2 => (h.cell n a c e1 e2).ext (Ext.new hp) (upd_ne (by
  intro q; subst q; exact (h.cell n a c e1 e2).some hp)), fun P hP => let ⟨t, n⟩ := h.tab P hP; ⟨tab_upd t (tab_ne t hp), n⟩⟩
/-- a new cell -/
def Em.push (ι : Em) (p : Addr) : Em := ⟨ι.c ++ [p], ι.b⟩
theorem Ext.newC {p : Addr} {o : HO} (hp : H p = none) : Ext ι H (ι.push p) (upd H p o) := .mk3 ⟨[], rfl, by simp⟩ ⟨[p], rfl, by simpa using hp⟩ fun a u _ h => by rw [upd_ne (ne_of_none h hp)]; exact h
theorem Sr.newC {p : Addr} {vs : List V} {ds : List D} (h : Sr K H ι S) (hp : H p = none) (r : Rps K H ι vs ds) : Sr K (upd H p (.lst vs)) (ι.push p) (S ++ [.lst ds]) := by
  refine ⟨by simp [Em.push, h.len], ?_, fun b hb => upd_some (h.ban b hb), fun n a c e1 e2 => ?_, fun P hP => let ⟨t, n⟩ := h.tab P hP; ⟨tab_upd t (tab_ne t hp), fun z => ?_⟩⟩
  · show (ι.c ++ [p]).Nodup
    rw [List.nodup_append]
    exact ⟨h.nd, by simp, fun a ha b hb => by simp at hb; subst hb; exact fun q => h.outC hp (q ▸ ha)⟩
  · replace e1 : (ι.c ++ [p])[n]? = some a := e1
    by_cases hn : n < ι.c.length
    · rw [List.getElem?_append_left hn] at e1
      rw [List.getElem?_append_left (by rw [← h.len]; exact hn)] at e2
      exact (h.cell n a c e1 e2).ext (Ext.newC hp) (upd_ne (by intro q; subst q; exact (h.cell n a c e1 e2).some hp))
    · have hn2 : n = ι.c.length := by
        have := (List.getElem?_eq_some_iff.mp e1).1
        simp at this; omega
      subst hn2
      rw [List.getElem?_append_right (Nat.le_refl _)] at e1
      rw [h.len, List.getElem?_append_right (Nat.le_refl _)] at e2
      simp at e1 e2
      subst e1; subst e2
      exact ⟨vs, upd_same, r.ext (Ext.newC hp)⟩
  · rcases z with z | z
    · rcases List.mem_append.mp z with z | z
      · exact n (.inl z)
      · cases List.mem_singleton.mp z; exact tab_ne t hp rfl
    · exact n (.inr z)
/-- a list cell's new content -/
theorem Ext.put {p : Addr} {n : Nat} {o : HO} (hp : ι.c[n]? = some p) : Ext ι H ι (upd H p o) := .mk3 ⟨[], rfl, by simp⟩ ⟨[], by simp, by simp⟩ fun a u ha h => by
  rw [upd_ne (fun q => ha (by rw [q]; exact List.mem_of_getElem? hp))]; exact h
theorem Sr.put {p : Addr} {n : Nat} {vs : List V} {ds : List D} (h : Sr K H ι S) (hp : ι.c[n]? = some p) (r : Rps K H ι vs ds) : Sr K (upd H p (.lst vs)) ι (S.set n (.lst ds)) := by
  refine ⟨by simp [h.len], h.nd, fun b hb => upd_some (h.ban b hb), fun m a c e1 e2 => ?_, fun P hP => let ⟨t, k⟩ := h.tab P hP; ⟨tab_upd t fun z => k (.inl (by rw [z]; exact List.mem_of_getElem? hp)), k⟩⟩
  by_cases hm : m = n
  · subst hm
    rw [hp] at e1; cases e1
    have hl : m < S.length := by rw [← h.len]; exact (List.getElem?_eq_some_iff.mp hp).1
    rw [List.getElem?_set_self hl] at e2
    cases e2
    exact ⟨vs, upd_same, r.ext (Ext.put hp)⟩
  · rw [List.getElem?_set_ne (Ne.symm hm)] at e2
    refine (h.cell m a c e1 e2).ext (Ext.put hp) (upd_ne ?_)
    intro q
    subst q
    exact hm (nd_ix h.nd e1 hp)
/-! ### an address that no data leans on -/
def Em.ban (ι : Em) (p : Addr) : Em := ⟨ι.c, p :: ι.b⟩
theorem Ext.banned {p : Addr} {o : HO} (hp : H p = none) : Ext ι H (ι.ban p) (upd H p o) := .mk3 ⟨[p], rfl, by simpa using hp⟩ ⟨[], by simp [Em.ban], by simp⟩ fun a u _ h => by rw [upd_ne (ne_of_none h hp)]; exact h
theorem Sr.banned {p : Addr} {o : HO} (h : Sr K H ι S) (hp : H p = none) : Sr K (upd H p o) (ι.ban p) S := by
  refine ⟨h.len, h.nd, fun b hb => ?_, fun n a c e1 e2 => (h.cell n a c e1 e2).ext (Ext.banned hp) (upd_ne fun q => (h.cell n a c e1 e2).some (q ▸ hp)), fun P hP => let ⟨t, k⟩ := h.tab P hP; ⟨tab_upd t (tab_ne t hp), fun z => ?_⟩⟩
  · rcases List.mem_cons.mp hb with rfl | hb
    · rw [upd_same]; simp
    · exact upd_some (h.ban b hb)
  · rcases z with z | z
    · exact k (.inl z)
    · rcases List.mem_cons.mp z with z | z
      · exact tab_ne t hp z
      · exact k (.inr z)
mutual
/-- a banned object changes -/
theorem Rp.ban2 {p : Addr} {o : HO} (hb : p ∈ ι.b) : ∀ {v : V} {d : D}, Rp K H ι v d → Rp K (upd H p o) ι v d
  | _, _, .non => .non
  | _, _, .bl b => .bl b
  | _, _, .int i => .int i
  | _, _, .str x => .str x
  | _, _, .tup hn hr hs => .tup hn ((upd_ne fun (q : _ = p) => hn (.inr (by rw [q]; exact hb))).trans hr) (Rps.ban2 hb hs)
  | _, _, .tupK h hs => .tupK h (Rps.ban2 hb hs)
  | _, _, .lst hn hr hs => .lst hn ((upd_ne fun (q : _ = p) => hn (.inr (by rw [q]; exact hb))).trans hr) (Rps.ban2 hb hs)
  | _, _, .frz hn hr hs => .frz hn ((upd_ne fun (q : _ = p) => hn (.inr (by rw [q]; exact hb))).trans hr) (Rps.ban2 hb hs)
  | _, _, .frzK h hs => .frzK h (Rps.ban2 hb hs)
  | _, _, .ref h => .ref h
  | _, _, .err hn hr hs => .err hn ((upd_ne fun (q : _ = p) => hn (.inr (by rw [q]; exact hb))).trans hr) (Rps.ban2 hb hs)
theorem Rps.ban2 {p : Addr} {o : HO} (hb : p ∈ ι.b) : ∀ {vs : List V} {ds : List D}, Rps K H ι vs ds → Rps K (upd H p o) ι vs ds
  | _, _, .nil => .nil
  | _, _, .cons h hs => .cons (Rp.ban2 hb h) (Rps.ban2 hb hs)
end
theorem Sr.ban2 {p : Addr} {o : HO} (h : Sr K H ι S) (hb : p ∈ ι.b) (hp : p ∉ ι.c) : Sr K (upd H p o) ι S := by
  refine ⟨h.len, h.nd, fun b hb => upd_some (h.ban b hb), fun n a c e1 e2 => ?_, fun P hP => let ⟨t, k⟩ := h.tab P hP; ⟨tab_upd t fun z => k (.inr (by rw [z]; exact hb)), k⟩⟩
  have q := h.cell n a c e1 e2
  have ne : a ≠ p := fun z => hp (z ▸ List.mem_of_getElem? e1)
  cases c with
  | lst ds => obtain ⟨vs, e3, r⟩ := q; exact ⟨vs, (upd_ne ne).trans e3, r.ban2 hb⟩
mutual
/-- fewer addresses are held -/
theorem Rp.less (hh : ∀ a, ι'.has a → ι.has a) (hc : ∀ (n : Nat) (a : Addr), ι.c[n]? = some a → ι'.c[n]? = some a) : ∀ {v : V} {d : D}, Rp K H ι v d → Rp K H ι' v d
  | _, _, .non => .non
  | _, _, .bl b => .bl b
  | _, _, .int i => .int i
  | _, _, .str x => .str x
  | _, _, .tup hn hr hs => .tup (fun z => hn (hh _ z)) hr (Rps.less hh hc hs)
  | _, _, .tupK h hs => .tupK h (Rps.less hh hc hs)
  | _, _, .lst hn hr hs => .lst (fun z => hn (hh _ z)) hr (Rps.less hh hc hs)
  | _, _, .frz hn hr hs => .frz (fun z => hn (hh _ z)) hr (Rps.less hh hc hs)
  | _, _, .frzK h hs => .frzK h (Rps.less hh hc hs)
  | _, _, .ref h => .ref (hc _ _ h)
  | _, _, .err hn hr hs => .err (fun z => hn (hh _ z)) hr (Rps.less hh hc hs)
theorem Rps.less (hh : ∀ a, ι'.has a → ι.has a) (hc : ∀ (n : Nat) (a : Addr), ι.c[n]? = some a → ι'.c[n]? = some a) : ∀ {vs : List V} {ds : List D}, Rps K H ι vs ds → Rps K H ι' vs ds
  | _, _, .nil => .nil
  | _, _, .cons h hs => .cons (Rp.less hh hc h) (Rps.less hh hc hs)
end
/-- a banned list is let go, as data | as a cell -/
def Em.free (ι : Em) (p : Addr) : Em := ⟨ι.c, ι.b.filter fun b => decide (b ≠ p)⟩
theorem Em.free_has {p a : Addr} (h : (ι.free p).has a) : ι.has a := h.imp id fun z => (List.mem_filter.mp z).1
theorem Sr.free {p : Addr} (h : Sr K H ι S) : Sr K H (ι.free p) S := by
  refine ⟨h.len, h.nd, fun b hb => h.ban b (List.mem_filter.mp hb).1, fun n a c e1 e2 => ?_, fun P hP => let ⟨t, k⟩ := h.tab P hP; ⟨t, fun z => k (Em.free_has z)⟩⟩
  have q := h.cell n a c e1 e2
  cases c with
  | lst ds => obtain ⟨vs, e3, r⟩ := q; exact ⟨vs, e3, r.less (fun _ => Em.free_has) fun _ _ z => z⟩
theorem Ext.free {p : Addr} (e : Ext ι H ι' H') : Ext ι H ⟨ι'.c, ι'.b.filter fun b => decide (b ≠ p)⟩ H' ∨ p ∈ ι.b := by
  by_cases hp : p ∈ ι.b
  · exact .inr hp
  · obtain ⟨nb, e1, k⟩ := e.ban
    refine .inl ⟨⟨nb.filter fun b => decide (b ≠ p), ?_, fun q hq => k q (List.mem_filter.mp hq).1⟩, e.pre, e.keep0⟩
    show ι'.b.filter _ = _
    rw [e1, List.filter_append]
    congr 1
    rw [List.filter_eq_self]
    intro b hb
    simp only [ne_eq, decide_eq_true_eq]
    exact fun z => hp (z ▸ hb)
theorem Em.push_has {p a : Addr} (hb : p ∈ ι.b) (h : ((ι.free p).push p).has a) : ι.has a := by
  rcases h with h | h
  · rcases List.mem_append.mp h with h | h
    · exact .inl h
    · cases List.mem_singleton.mp h; exact .inr hb
  · exact .inr (List.mem_filter.mp h).1
theorem Em.push_get {p : Addr} (n : Nat) (a : Addr) (h : ι.c[n]? = some a) : ((ι.free p).push p).c[n]? = some a := by
  show (ι.c ++ [p])[n]? = some a
  rw [List.getElem?_append_left (List.getElem?_eq_some_iff.mp h).1]; exact h
theorem Sr.adopt {p : Addr} {us : List V} {ds : List D} (h : Sr K H ι S) (hb : p ∈ ι.b) (hp : p ∉ ι.c) (e : H p = some (.lst us)) (r : Rps K H ι us ds) : Sr K H ((ι.free p).push p) (S ++ [.lst ds]) := by
  refine ⟨by show (ι.c ++ [p]).length = _; simp [h.len], ?_, fun b hb => h.ban b (List.mem_filter.mp hb).1, fun n a c e1 e2 => ?_, fun P hP => let ⟨t, k⟩ := h.tab P hP; ⟨t, fun z => k (Em.push_has hb z)⟩⟩
  · show (ι.c ++ [p]).Nodup
    rw [List.nodup_append]
    exact ⟨h.nd, by simp, fun a ha b hb => by simp at hb; subst hb; exact fun q => hp (q ▸ ha)⟩
  · replace e1 : (ι.c ++ [p])[n]? = some a := e1
    by_cases hn : n < ι.c.length
    · rw [List.getElem?_append_left hn] at e1
      rw [List.getElem?_append_left (by rw [← h.len]; exact hn)] at e2
      have q := h.cell n a c e1 e2
      cases c with
      | lst es => obtain ⟨vs, e3, r⟩ := q; exact ⟨vs, e3, r.less (fun _ => Em.push_has hb) fun n a => Em.push_get n a⟩
    · have hn2 : n = ι.c.length := by
        have := (List.getElem?_eq_some_iff.mp e1).1
        simp at this; omega
      subst hn2
      rw [List.getElem?_append_right (Nat.le_refl _)] at e1
      rw [h.len, List.getElem?_append_right (Nat.le_refl _)] at e2
      simp at e1 e2
      subst e1; subst e2
      exact ⟨us, e, r.less (fun _ => Em.push_has hb) fun n a => Em.push_get n a⟩
end

/-! ### environments -/
def Er1 (K : PySem.W.Frag) (H : Hp) (ι : Em) (x : Option V) : Option D → Prop
  | none => True
  | some d => ∃ v, x = some v ∧ Rp K H ι v d
structure Er (K : PySem.W.Frag) (H : Hp) (ι : Em) (σ : L2.St) (env : Env) : Prop where
  len : σ.length = env.length
  at_ : ∀ (i : Nat) (d : D), env[i]? = some (some d) → ∃ v, σ[i]? = some (some v) ∧ Rp K H ι v d
section
variable {K : PySem.W.Frag} {ι ι' : Em} {H H' : Hp} {σ : L2.St} {env : Env}
theorem Er.ext (e : Ext ι H ι' H') (h : Er K H ι σ env) : Er K H' ι' σ env := ⟨h.len, fun i d q => let ⟨v, a, b⟩ := h.at_ i d q; ⟨v, a, b.ext e⟩⟩
theorem Er.set {i : Nat} {v : V} {d : D} (h : Er K H ι σ env) (r : Rp K H ι v d) : Er K H ι (σ.set i (some v)) (env.set i (some d)) := by
  refine ⟨by simp [h.len], fun j e q => ?_⟩
  by_cases hj : i = j
  · subst hj
    have hl : i < env.length := by
      have := (List.getElem?_eq_some_iff.mp q).1
      simpa using this
    rw [List.getElem?_set_self hl] at q
    cases q
    exact ⟨v, List.getElem?_set_self (by rw [h.len]; exact hl), r⟩
  · rw [List.getElem?_set_ne hj] at q ⊢
    exact h.at_ j e q
theorem Er.unset {i : Nat} {x : Option V} (h : Er K H ι σ env) : Er K H ι (σ.set i x) (env.set i none) := by
  refine ⟨by simp [h.len], fun j e q => ?_⟩
  by_cases hj : i = j
  · subst hj
    have hl : i < env.length := by
      have := (List.getElem?_eq_some_iff.mp q).1
      simpa using this
    rw [List.getElem?_set_self hl] at q
    cases q
  · rw [List.getElem?_set_ne hj] at q ⊢
    exact h.at_ j e q
end

/-! ### readings -/
/-- a class's address by its name -/
def clsOf (mg : Str → Option Value) (c : Str) : Option Value := mg c
/-- what is wished of a result -/
def Post {α β : Type} (K : PySem.W.Frag) (mg : Str → Option Value) (Rel : Hp → Em → β → α → Prop) (W : WX) (σ : L2.St) (ι : Em) (H : Hp) (r : R α) (Q : β → Hp → Prop) : Prop := match r with
  | .ok a S' => ∀ ι' H' v, Ext ι H ι' H' → Sr K H' ι' S' → Rel H' ι' v a → Q v H'
  | .ex c fs S' => ∀ ι' H' dd C us, Ext ι H ι' H' → Sr K H' ι' S' → mg c = some (.ref C) → H' dd = some (.xd ((fs.map (·.1)).zip us)) → ¬ ι'.has dd → Rps K H' ι' us (fs.map (·.2)) → W (.ref C) (some dd) σ H'
  | .bad => False
abbrev Den := Env → Sto → R D
abbrev DenA := Env → Sto → R (List D)
abbrev DenT := Env → Sto → R Bool
def rd (K : PySem.W.Frag) (mg : Str → Option Value) (W : WX) (d : Den) : TE := fun σ H Q => ∃ ι env S, Sr K H ι S ∧ Er K H ι σ env ∧ Post K mg (Rp K) W σ ι H (d env S) Q
def rdA (K : PySem.W.Frag) (mg : Str → Option Value) (W : WX) (d : DenA) : TA := fun σ H Q => ∃ ι env S, Sr K H ι S ∧ Er K H ι σ env ∧ Post K mg (Rps K) W σ ι H (d env S) Q
def rdT (K : PySem.W.Frag) (mg : Str → Option Value) (W : WX) (d : DenT) : TT := fun σ H Q => ∃ ι env S, Sr K H ι S ∧ Er K H ι σ env ∧ Post K mg (fun _ _ b c => b = c) W σ ι H (d env S) Q
section
variable {K : PySem.W.Frag} {mg : Str → Option Value} {W : WX} {σ : L2.St} {ι ι' : Em} {H H' : Hp} {S : Sto}
theorem Post.ext {α β : Type} {Rel : Hp → Em → β → α → Prop} {r : R α} {Q : β → Hp → Prop} (h : Post K mg Rel W σ ι H r Q) (e : Ext ι H ι' H') (s : Sr K H' ι' S) : Post K mg Rel W σ ι' H' r Q := by
  cases r with
  | ok a S' => exact fun ι2 H2 v e2 s2 r2 => h ι2 H2 v (e.tr s e2) s2 r2
  | ex c fs S' => exact fun ι2 H2 dd C gs e2 s2 hc => h ι2 H2 dd C gs (e.tr s e2) s2 hc
  | bad => exact h
theorem Post.mono {α β : Type} {Rel : Hp → Em → β → α → Prop} {r : R α} {Q Q' : β → Hp → Prop} (h : Post K mg Rel W σ ι H r Q) (f : ∀ v H, Q v H → Q' v H) : Post K mg Rel W σ ι H r Q' := by
  cases r with
  | ok a S' => exact fun ι2 H2 v e2 s2 r2 => f _ _ (h ι2 H2 v e2 s2 r2)
  | ex c fs S' => exact h
  | bad => exact h
theorem Post.bind {α β α' β' : Type} {Rel : Hp → Em → β → α → Prop} {Rel' : Hp → Em → β' → α' → Prop} {r : R α'} {k : α' → Sto → R α} {Q : β → Hp → Prop} (h : Post K mg Rel W σ ι H (r.bind k) Q) :
    Post K mg Rel' W σ ι H r (fun x H1 => ∃ ι1 a S1, Ext ι H ι1 H1 ∧ Sr K H1 ι1 S1 ∧ Rel' H1 ι1 x a ∧ Post K mg Rel W σ ι1 H1 (k a S1) Q) := by
  cases r with
  | ok a S' => exact fun ι2 H2 v e2 s2 r2 => ⟨ι2, a, S', e2, s2, r2, Post.ext h e2 s2⟩
  | ex c fs S' => exact h
  | bad => exact h
theorem Post.ret {α β : Type} {Rel : Hp → Em → β → α → Prop} {a : α} {v : β} {Q : β → Hp → Prop} (h : Post K mg Rel W σ ι H (.ok a S) Q) (s : Sr K H ι S) (r : Rel H ι v a) : Q v H := h ι H v Ext.refl s r
end
theorem PE.imp {X : Cx} {e : Expr} {t t' : TE} (h : PE X e t) (f : ∀ σ H Q, t' σ H Q → t σ H Q) : PE X e t' := ⟨fun pins s σ H Q I q => h.run pins s σ H Q I (f σ H Q q)⟩
theorem PT.imp {X : Cx} {e : Expr} {t t' : TT} (h : PT X e t) (f : ∀ σ H Q, t' σ H Q → t σ H Q) : PT X e t' := ⟨fun pins s σ H Q I q => h.run pins s σ H Q I (f σ H Q q)⟩
theorem PA.imp {X : Cx} {e : List Expr} {t t' : TA} (h : PA X e t) (f : ∀ σ H Q, t' σ H Q → t σ H Q) : PA X e t' := ⟨fun pos pins s σ H Q I q => h.run pos pins s σ H Q I (f σ H Q q)⟩
theorem PS.imp {X : Cx} {e : Stmt} {t t' : TS} (h : PS X e t) (f : ∀ D σ H, t' D σ H → t D σ H) : PS X e t' := ⟨fun pins s σ H D I q => h.run pins s σ H D I (f D σ H q)⟩
theorem PSs.imp {X : Cx} {e : List Stmt} {t t' : TS} (h : PSs X e t) (f : ∀ D σ H, t' D σ H → t D σ H) : PSs X e t' := ⟨fun pins s σ H D I q => h.run pins s σ H D I (f D σ H q)⟩
end Z
end

section
set_option Elab.async false
set_option linter.all false
set_option maxRecDepth 100000
set_option maxHeartbeats 1000000
namespace Z
noncomputable section
open PySem PySem.Spec PyProof.Rows L2

/-! ### what stands behind a list's value -/
/-- the items of a sequence: a tuple, a list -/
def seqOf (S : Sto) : D → Option (List D)
  | .tup xs => some xs
  | .lst xs => some xs
  | .frz xs => some xs
  | .ref n => match S[n]? with
    | some (.lst xs) => some xs
    | none => none
  | _ => none
/-- the items of a list -/
def lstOf (S : Sto) : D → Option (List D)
  | .lst xs => some xs
  | .frz xs => some xs
  | .ref n => match S[n]? with
    | some (.lst xs) => some xs
    | none => none
  | _ => none
/-- the items of a list that is laid in the call -/
def ownOf (S : Sto) : D → Option (List D)
  | .lst xs => some xs
  | .ref n => match S[n]? with
    | some (.lst xs) => some xs
    | none => none
  | _ => none
section
variable {K : PySem.W.Frag} {H : Hp} {ι : Em} {S : Sto} {v : V} {d : D} {xs : List D}
theorem Sr.list (s : Sr K H ι S) {n : Nat} {a : Addr} (h : ι.c[n]? = some a) (e : S[n]? = some (.lst xs)) : ∃ vs, H a = some (.lst vs) ∧ Rps K H ι vs xs := s.cell n a _ h e
theorem own_inv (s : Sr K H ι S) (r : Rp K H ι v d) (e : ownOf S d = some xs) : ∃ a vs, v = .ref a ∧ H a = some (.lst vs) ∧ Rps K H ι vs xs := by
  cases d with
  | lst ys => cases e; obtain ⟨a, vs, e1, _, e2, e3⟩ := r.lst_inv; exact ⟨a, vs, e1, e2, e3⟩
  | ref n =>
    obtain ⟨a, e1, e2⟩ := r.ref_inv
    simp only [ownOf] at e
    split at e
    · rename_i e3; cases e; obtain ⟨vs, h1, h2⟩ := s.list e2 e3; exact ⟨a, vs, e1, h1, h2⟩
    · cases e
  | _ => cases e
theorem lst_inv (s : Sr K H ι S) (r : Rp K H ι v d) (e : lstOf S d = some xs) : ∃ a vs, v = .ref a ∧ SqL K H a vs ∧ Rps K H ι vs xs := by
  cases d with
  | lst ys => cases e; obtain ⟨a, vs, e1, _, e2, e3⟩ := r.lst_inv; exact ⟨a, vs, e1, .of e2, e3⟩
  | frz ys => cases e; exact r.frz_inv
  | ref n =>
    obtain ⟨a, e1, e2⟩ := r.ref_inv
    simp only [lstOf] at e
    split at e
    · rename_i e3; cases e; obtain ⟨vs, h1, h2⟩ := s.list e2 e3; exact ⟨a, vs, e1, .of h1, h2⟩
    · cases e
  | _ => cases e
theorem seq_inv (s : Sr K H ι S) (r : Rp K H ι v d) (e : seqOf S d = some xs) : ∃ a vs, v = .ref a ∧ (SqL K H a vs ∨ SqT K H a vs) ∧ Rps K H ι vs xs := by
  cases d with
  | tup ys => cases e; obtain ⟨a, vs, e1, e2, e3⟩ := r.tup_inv; exact ⟨a, vs, e1, .inr e2, e3⟩
  | lst ys => cases e; obtain ⟨a, vs, e1, _, e2, e3⟩ := r.lst_inv; exact ⟨a, vs, e1, .inl (.of e2), e3⟩
  | frz ys => cases e; obtain ⟨a, vs, e1, e2, e3⟩ := r.frz_inv; exact ⟨a, vs, e1, .inl e2, e3⟩
  | ref n =>
    obtain ⟨a, e1, e2⟩ := r.ref_inv
    simp only [seqOf] at e
    split at e
    · rename_i e3; cases e; obtain ⟨vs, h1, h2⟩ := s.list e2 e3; exact ⟨a, vs, e1, .inl (.of h1), h2⟩
    · cases e
  | _ => cases e
end

/-! ### making objects -/
/-- a new list: data, or a cell -/
def mkL (c : Bool) (xs : List D) (S : Sto) : R D := if Fit xs.length then (if c then .ok (.ref S.length) (S ++ [.lst xs]) else .ok (.lst xs) S) else .bad
def mkT (xs : List D) (S : Sto) : R D := if Fit xs.length then .ok (.tup xs) S else .bad
section
variable {K : PySem.W.Frag} {mg : Str → Option Value} {W : WX} {σ : L2.St} {H : Hp} {ι : Em} {S : Sto} {xs : List D} {vs : List V} {Q : VK}
theorem Post.mkL {c : Bool} (h : Post K mg (Rp K) W σ ι H (mkL c xs S) Q) (s : Sr K H ι S) (r : Rps K H ι vs xs) : vs.length ≤ sizeLine ∧ ∀ p, H p = none → Q (.ref p) (upd H p (.lst vs)) := by
  unfold Z.mkL at h
  by_cases hl : Fit xs.length
  · rw [if_pos hl] at h
    refine ⟨by rw [r.length]; exact hl, fun p hp => ?_⟩
    cases c with
    | true =>
      exact h _ _ _ (Ext.newC hp) (s.newC hp r) (.ref (by show (ι.c ++ [p])[S.length]? = some p; rw [← s.len]; simp))
    | false => exact h _ _ _ (Ext.new hp) (s.new hp) (.lst (s.out hp) upd_same (r.ext (Ext.new hp)))
  · rw [if_neg hl] at h; exact h.elim
theorem Post.mkT (h : Post K mg (Rp K) W σ ι H (mkT xs S) Q) (s : Sr K H ι S) (r : Rps K H ι vs xs) : vs.length ≤ sizeLine ∧ ∀ p, H p = none → Q (.ref p) (upd H p (.tup vs)) := by
  unfold Z.mkT at h
  by_cases hl : Fit xs.length
  · rw [if_pos hl] at h
    exact ⟨by rw [r.length]; exact hl, fun p hp => h _ _ _ (Ext.new hp) (s.new hp) (.tup (s.out hp) upd_same (r.ext (Ext.new hp)))⟩
  · rw [if_neg hl] at h; exact h.elim
end

/-! ### names and constants -/
def dVar (i : Nat) : Den := fun env S => match env[i]? with
  | some (some d) => .ok d S
  | _ => .bad
def dC (d : D) : Den := fun _ S => .ok d S
section
variable {X : Cx} {W : WX}
abbrev EE (X : Cx) (W : WX) (e : Expr) (d : Den) : Prop := PE X e (rd X.K X.mg W d)
abbrev TT' (X : Cx) (W : WX) (e : Expr) (d : DenT) : Prop := PT X e (rdT X.K X.mg W d)
abbrev AA (X : Cx) (W : WX) (e : List Expr) (d : DenA) : Prop := PA X e (rdA X.K X.mg W d)
theorem rd_var {K : PySem.W.Frag} {mg : Str → Option Value} {i : Nat} {σ : L2.St} {H : Hp} {Q : VK} (h : rd K mg W (dVar i) σ H Q) : tVar i σ H Q := by
  obtain ⟨ι, env, S, s, er, p⟩ := h
  unfold dVar at p
  split at p
  · rename_i d e
    obtain ⟨v, e1, r⟩ := er.at_ i d e
    exact ⟨v, e1, p.ret s r⟩
  · exact p.elim
theorem ev (i : Nat) {x : Str} {pos : Pos} (hN : X.N[i]? = some x := by rfl) (hv : Vis X.env.scope x := by first | exact Or.inl rfl | exact Or.inr (Or.inl rfl) | exact Or.inr (Or.inr rfl)) (hd : (x == ("__debug__" : Str)) = false := by decide)
    (hcd : (x == ("__classdict__" : Str)) = false := by decide) : EE X W (.Name x pos) (dVar i) := PE.imp (pe_var hN hv hd hcd) fun _ _ _ h => rd_var h
/-- the constant data -/
inductive Flat : V → D → Prop
  | non : Flat .non .non
  | bl (b : Bool) : Flat (.bl b) (.bl b)
  | int (i : Int) : Flat (.int i) (.int i)
  | str (x : Str) : Flat (.str x) (.str x)
theorem Flat.rp {K : PySem.W.Frag} {H : Hp} {ι : Em} {v : V} {d : D} (h : Flat v d) : Rp K H ι v d := by cases h <;> constructor
theorem rd_c {K : PySem.W.Frag} {mg : Str → Option Value} {v : V} {d : D} {σ : L2.St} {H : Hp} {Q : VK} (f : ∀ ι, Rp K H ι v d) (h : rd K mg W (dC d) σ H Q) : tC v σ H Q := by
  obtain ⟨ι, env, S, s, er, p⟩ := h
  exact p.ret s (f ι)
theorem ec_int {i : Int} {j pos} : EE X W (.Constant (.int i) j pos) (dC (.int i)) := PE.imp pe_int fun _ _ _ h => rd_c (fun _ => .int i) h
theorem ec_bl {b : Bool} {j pos} : EE X W (.Constant (.bool b) j pos) (dC (.bl b)) := PE.imp pe_bl fun _ _ _ h => rd_c (fun _ => .bl b) h
theorem ec_non {j pos} : EE X W (.Constant .none j pos) (dC .non) := PE.imp pe_non fun _ _ _ h => rd_c (fun _ => .non) h
theorem ec_str {x : Str} {j pos} : EE X W (.Constant (.str x) j pos) (dC (.str x)) := PE.imp pe_str fun _ _ _ h => rd_c (fun _ => .str x) h
/-- a constant of the module: data of the written part -/
theorem e_glob {x : Str} {u : Value} {v : V} {d : D} {pos : Pos} (hg : Gl X x) (hm : X.mg x = some u) (r : RelV v u) (f : ∀ H ι, Rp X.K H ι v d) (hd : (x == ("__debug__" : Str)) = false := by decide) : EE X W (.Name x pos) (dC d) :=
  PE.imp (pe_glob hg hm r hd) fun _ _ _ h => rd_c (f _) h
end

/-! ### two places -/
def bin (f : D → D → Sto → R D) (a b : Den) : Den := fun env S => (a env S).bind fun x S1 => (b env S1).bind fun y S2 => f x y S2
def OpS (K : PySem.W.Frag) (r : R2) (f : D → D → Sto → R D) : Prop :=
  ∀ (mg : Str → Option Value) (W : WX) (σ : L2.St) (ι : Em) (H : Hp) (S : Sto) (x y : V) (dx dy : D) (Q : VK), Sr K H ι S → Rp K H ι x dx → Rp K H ι y dy → Post K mg (Rp K) W σ ι H (f dx dy S) Q → r x y H Q
section
variable {X : Cx} {W : WX} {a b c : Expr} {da db dc : Den} {pos : Pos} {r r' : R2} {f g : D → D → Sto → R D}
theorem rd_bin {K : PySem.W.Frag} {mg : Str → Option Value} {σ : L2.St} {H : Hp} {Q : VK} (hf : OpS K r f) (h : rd K mg W (bin f da db) σ H Q) : tOp r (rd K mg W da) (rd K mg W db) σ H Q := by
  obtain ⟨ι, env, S, s, er, p⟩ := h
  refine ⟨ι, env, S, s, er, (Post.bind (Rel' := Rp K) p).mono ?_⟩
  rintro x H1 ⟨ι1, dx, S1, e1, s1, r1, p1⟩
  refine ⟨ι1, env, S1, s1, er.ext e1, (Post.bind (Rel' := Rp K) p1).mono ?_⟩
  rintro y H2 ⟨ι2, dy, S2, e2, s2, r2, p2⟩
  exact hf mg W σ ι2 H2 S2 x y dx dy Q s2 (r1.ext e2) r2 p2
theorem e_op {op : Operator} (ho : OpR X (binaryOp op) r) (hf : OpS X.K r f) (ha : EE X W a da) (hb : EE X W b db) : EE X W (.BinOp a op b pos) (bin f da db) := PE.imp (pe_op ho ha hb) fun _ _ _ h => rd_bin hf h
theorem e_cmp {op : CmpOp} (ho : OpR X (compareOp op) r) (hf : OpS X.K r f) (ha : EE X W a da) (hb : EE X W b db) (hm : behindInMarks op b = false := by first | exact nomark _ | rfl) : EE X W (.Compare a [op] [b] pos) (bin f da db) := PE.imp (pe_cmpR ho ha hb hm) fun _ _ _ h => rd_bin hf h
theorem e_ix {r : R2} (ho : IxR X r) (hf : OpS X.K r f) (ha : EE X W a da) (hb : EE X W b db) (hs : PlainIx b := by exact fun _ _ => rfl) : EE X W (.Subscript a b pos) (bin f da db) := PE.imp (pe_ix ho ha hb hs) fun _ _ _ h => rd_bin hf h
theorem OpS.or1 {K : PySem.W.Frag} (h : OpS K r f) : OpS K (fun x y H Q => r x y H Q ∨ r' x y H Q) f := fun mg W σ ι H S x y dx dy Q s rx ry p => .inl (h mg W σ ι H S x y dx dy Q s rx ry p)
/-- a op1 b op2 c -/
def chain (f g : D → D → Sto → R D) (a b c : Den) : Den := fun env S => (a env S).bind fun x S1 => (b env S1).bind fun y S2 => (f x y S2).bind fun z S3 => match z with
  | .bl true => (c env S3).bind fun w S4 => g y w S4
  | .bl false => .ok (.bl false) S3
  | _ => .bad
theorem rd_chain {K : PySem.W.Frag} {mg : Str → Option Value} {σ : L2.St} {H : Hp} {Q : VK} (hf : OpS K r f) (hg : OpS K r' g) (h : rd K mg W (chain f g da db dc) σ H Q) : tChain r r' (rd K mg W da) (rd K mg W db) (rd K mg W dc) σ H Q := by
  obtain ⟨ι, env, S, s, er, p⟩ := h
  refine ⟨ι, env, S, s, er, (Post.bind (Rel' := Rp K) p).mono ?_⟩
  rintro x H1 ⟨ι1, dx, S1, e1, s1, r1, p1⟩
  refine ⟨ι1, env, S1, s1, er.ext e1, (Post.bind (Rel' := Rp K) p1).mono ?_⟩
  rintro y H2 ⟨ι2, dy, S2, e2, s2, r2, p2⟩
  refine hf mg W σ ι2 H2 S2 x y dx dy _ s2 (r1.ext e2) r2 ((Post.bind (Rel' := Rp K) p2).mono ?_)
  rintro z H3 ⟨ι3, dz, S3, e3, s3, r3, p3⟩
  cases dz with
  | bl k =>
    cases r3
    refine ⟨k, rfl, ?_⟩
    cases k with
    | true =>
      rw [if_pos rfl]
      refine ⟨ι3, env, S3, s3, ((er.ext e1).ext e2).ext e3, (Post.bind (Rel' := Rp K) p3).mono ?_⟩
      rintro w H4 ⟨ι4, dw, S4, e4, s4, r4, p4⟩
      exact hg mg W σ ι4 H4 S4 y w dy dw Q s4 ((r2.ext e3).ext e4) r4 p4
    | false =>
      rw [if_neg Bool.false_ne_true]
      exact p3.ret s3 (.bl false)
  | _ => exact p3.elim
theorem e_chain {op op' : CmpOp} (ho : OpR X (compareOp op) r) (ho' : OpR X (compareOp op') r') (hf : OpS X.K r f) (hg : OpS X.K r' g) (ha : EE X W a da) (hb : EE X W b db) (hc : EE X W c dc)
    (hm : lastMarks [op, op'] [b, c] = false := by with_unfolding_all rfl) : EE X W (.Compare a [op, op'] [b, c] pos) (chain f g da db dc) := PE.imp (pe_chain ho ho' ha hb hc hm) fun _ _ _ h => rd_chain hf hg h
end

/-! ### ints -/
def fAdd (x y : D) (S : Sto) : R D := match x, y with
  | .int i, .int j => .ok (.int (i + j)) S
  | _, _ => .bad
def fSub (x y : D) (S : Sto) : R D := match x, y with
  | .int i, .int j => .ok (.int (i - j)) S
  | _, _ => .bad
def MulOk (i j : Int) : Prop := CMul i j ∨ CMulW i j
noncomputable instance (i j : Int) : Decidable (MulOk i j) := Classical.propDecidable _
def fMul (x y : D) (S : Sto) : R D := match x, y with
  | .int i, .int j => if MulOk i j then .ok (.int (i * j)) S else .bad
  | _, _ => .bad
def DivOk (j : Int) : Prop := 0 < j ∧ j.natAbs.log2 < 9000
noncomputable instance (j : Int) : Decidable (DivOk j) := Classical.propDecidable _
def fDiv (x y : D) (S : Sto) : R D := match x, y with
  | .int i, .int j => if DivOk j then .ok (.int (i / j)) S else .bad
  | _, _ => .bad
def fMod (x y : D) (S : Sto) : R D := match x, y with
  | .int i, .int j => if 0 < j then .ok (.int (i % j)) S else .bad
  | _, _ => .bad
noncomputable instance (i j : Int) : Decidable (CPow i j) := Classical.propDecidable _
def fPow (x y : D) (S : Sto) : R D := match x, y with
  | .int i, .int j => if CPow i j then .ok (.int (i ^ j.toNat)) S else .bad
  | _, _ => .bad
def fLt (x y : D) (S : Sto) : R D := match x, y with
  | .int i, .int j => .ok (.bl (decide (i < j))) S
  | _, _ => .bad
def fLe (x y : D) (S : Sto) : R D := match x, y with
  | .int i, .int j => .ok (.bl (decide (i ≤ j))) S
  | _, _ => .bad
def fGt (x y : D) (S : Sto) : R D := match x, y with
  | .int i, .int j => .ok (.bl (decide (j < i))) S
  | _, _ => .bad
def fGe (x y : D) (S : Sto) : R D := match x, y with
  | .int i, .int j => .ok (.bl (decide (j ≤ i))) S
  | _, _ => .bad
section
variable {K : PySem.W.Frag} {X : Cx}
theorem int2 {H : Hp} {ι : Em} {x y : V} {i j : Int} (rx : Rp K H ι x (.int i)) (ry : Rp K H ι y (.int j)) : x = .int i ∧ y = .int j := ⟨rx.int_inv, ry.int_inv⟩
theorem opI0S {g : Int → Int → V} {f : D → D → Sto → R D} {gd : Int → Int → D} (hf : ∀ x y S, f x y S = match x, y with | .int i, .int j => .ok (gd i j) S | _, _ => .bad) (hg : ∀ i j, Flat (g i j) (gd i j)) : OpS K (rI0 g) f := by
  intro mg W σ ι H S x y dx dy Q s rx ry p
  rw [hf] at p
  split at p
  · rename_i i j
    obtain ⟨rfl, rfl⟩ := int2 rx ry
    exact ⟨i, j, rfl, rfl, p.ret s (hg i j).rp⟩
  · exact p.elim
theorem opIS {C : Int → Int → Prop} {D' : Int → Int → Prop} [∀ i j, Decidable (D' i j)] {g : Int → Int → V} {f : D → D → Sto → R D} {gd : Int → Int → D} (hf : ∀ x y S, f x y S = match x, y with | .int i, .int j => if D' i j then .ok (gd i j) S else .bad | _, _ => .bad) (hc : ∀ i j, D' i j → C i j) (hg : ∀ i j, Flat (g i j) (gd i j)) : OpS K (rI C g) f := by
  intro mg W σ ι H S x y dx dy Q s rx ry p
  rw [hf] at p
  split at p
  · rename_i i j
    obtain ⟨rfl, rfl⟩ := int2 rx ry
    by_cases h : D' i j
    · rw [if_pos h] at p; exact ⟨i, j, rfl, rfl, hc i j h, p.ret s (hg i j).rp⟩
    · rw [if_neg h] at p; exact p.elim
  · exact p.elim
theorem sAdd : OpS K (rI0 fun i j => .int (i + j)) fAdd := opI0S (fun _ _ _ => rfl) fun _ _ => .int _
theorem sSub : OpS K (rI0 fun i j => .int (i - j)) fSub := opI0S (fun _ _ _ => rfl) fun _ _ => .int _
def rMul : R2 := fun x y H Q => (rI CMul fun i j => .int (i * j)) x y H Q ∨ (rI CMulW fun i j => .int (i * j)) x y H Q
theorem oMul : OpR X (binaryOp .Mult) rMul := op_mul.or op_mulW
theorem sMul : OpS K rMul fMul := by
  intro mg W σ ι H S x y dx dy Q s rx ry p
  unfold fMul at p
  split at p
  · rename_i i j
    obtain ⟨rfl, rfl⟩ := int2 rx ry
    by_cases h : MulOk i j
    · rw [if_pos h] at p
      rcases h with h | h
      · exact .inl ⟨i, j, rfl, rfl, h, p.ret s (.int _)⟩
      · exact .inr ⟨i, j, rfl, rfl, h, p.ret s (.int _)⟩
    · rw [if_neg h] at p; exact p.elim
  · exact p.elim
theorem sDiv : OpS K (rI CDivW fun i j => .int (i / j)) fDiv := opIS (D' := fun _ j => DivOk j) (fun _ _ _ => rfl) (fun _ _ h => h) fun _ _ => .int _
theorem sMod : OpS K (rI (fun _ j => 0 < j) fun i j => .int (i % j)) fMod := opIS (D' := fun _ j => 0 < j) (fun _ _ _ => rfl) (fun _ _ h => h) fun _ _ => .int _
theorem sPow : OpS K (rI CPow fun i j => .int (i ^ j.toNat)) fPow := opIS (D' := CPow) (fun _ _ _ => rfl) (fun _ _ h => h) fun _ _ => .int _
theorem sLt : OpS K (rI0 fun i j => .bl (decide (i < j))) fLt := opI0S (fun _ _ _ => rfl) fun _ _ => .bl _
theorem sLe : OpS K (rI0 fun i j => .bl (decide (i ≤ j))) fLe := opI0S (fun _ _ _ => rfl) fun _ _ => .bl _
theorem sGt : OpS K (rI0 fun i j => .bl (decide (j < i))) fGt := opI0S (fun _ _ _ => rfl) fun _ _ => .bl _
theorem sGe : OpS K (rI0 fun i j => .bl (decide (j ≤ i))) fGe := opI0S (fun _ _ _ => rfl) fun _ _ => .bl _
end

/-! ### one place -/
def un (f : D → Sto → R D) (a : Den) : Den := fun env S => (a env S).bind f
def UnS (K : PySem.W.Frag) (r : V → Hp → VK → Prop) (f : D → Sto → R D) : Prop :=
  ∀ (mg : Str → Option Value) (W : WX) (σ : L2.St) (ι : Em) (H : Hp) (S : Sto) (x : V) (dx : D) (Q : VK), Sr K H ι S → Rp K H ι x dx → Post K mg (Rp K) W σ ι H (f dx S) Q → r x H Q
def fNeg (x : D) (S : Sto) : R D := match x with
  | .int i => .ok (.int (-i)) S
  | _ => .bad
section
variable {X : Cx} {W : WX} {a b : Expr} {da db : Den} {pos : Pos} {r : V → Hp → VK → Prop} {f : D → Sto → R D}
theorem rd_un {K : PySem.W.Frag} {mg : Str → Option Value} {σ : L2.St} {H : Hp} {Q : VK} (hf : UnS K r f) (h : rd K mg W (un f da) σ H Q) : tUn r (rd K mg W da) σ H Q := by
  obtain ⟨ι, env, S, s, er, p⟩ := h
  refine ⟨ι, env, S, s, er, (Post.bind (Rel' := Rp K) p).mono ?_⟩
  rintro x H1 ⟨ι1, dx, S1, e1, s1, r1, p1⟩
  exact hf mg W σ ι1 H1 S1 x dx Q s1 r1 p1
theorem e_un {op : UnaryOp} (ho : UnR X (unaryOp op) r) (hf : UnS X.K r f) (ha : EE X W a da) : EE X W (.UnaryOp op a pos) (un f da) := PE.imp (pe_un ho ha) fun _ _ _ h => rd_un hf h
theorem sNeg {K : PySem.W.Frag} : UnS K (rU fun i => .int (-i)) fNeg := by
  intro mg W σ ι H S x dx Q s rx p
  unfold fNeg at p
  split at p
  · cases rx; exact ⟨_, rfl, p.ret s (.int _)⟩
  · exact p.elim
end

/-! ### is -/
def isNon : D → Bool
  | .non => true
  | _ => false
def isBl (b : Bool) : D → Bool
  | .bl c => b == c
  | _ => false
def dIsN (a : Den) : Den := fun env S => (a env S).bind fun x S1 => .ok (.bl (isNon x)) S1
def dNotN (a : Den) : Den := fun env S => (a env S).bind fun x S1 => .ok (.bl (!isNon x)) S1
def dIsB (b : Bool) (a : Den) : Den := fun env S => (a env S).bind fun x S1 => .ok (.bl (isBl b x)) S1
def dNotB (b : Bool) (a : Den) : Den := fun env S => (a env S).bind fun x S1 => .ok (.bl (!isBl b x)) S1
section
variable {X : Cx} {W : WX} {a b : Expr} {da db : Den} {pos : Pos}
theorem Rp.isNon {K : PySem.W.Frag} {H : Hp} {ι : Em} {v : V} {d : D} (h : Rp K H ι v d) : decide (v = .non) = Z.isNon d := by cases h <;> simp [Z.isNon]
theorem Rp.isBl {K : PySem.W.Frag} {H : Hp} {ι : Em} {v : V} {d : D} {b : Bool} (h : Rp K H ι v d) : decide (v = .bl b) = Z.isBl b d := by
  cases h <;> simp [Z.isBl]
  rename_i c
  cases b <;> cases c <;> rfl
theorem e_isN {j pos'} (ha : EE X W a da) : EE X W (.Compare a [.Is] [.Constant .none j pos'] pos) (dIsN da) := PE.imp (pe_cmp (pc_isN ha)) fun σ H Q h => by
  obtain ⟨ι, env, S, s, er, p⟩ := h
  refine ⟨ι, env, S, s, er, (Post.bind (Rel' := Rp X.K) p).mono ?_⟩
  rintro x H1 ⟨ι1, dx, S1, e1, s1, r1, p1⟩
  rw [r1.isNon]; exact p1.ret s1 (.bl _)
theorem e_notN {j pos'} (ha : EE X W a da) : EE X W (.Compare a [.IsNot] [.Constant .none j pos'] pos) (dNotN da) := PE.imp (pe_cmp (pc_notN ha)) fun σ H Q h => by
  obtain ⟨ι, env, S, s, er, p⟩ := h
  refine ⟨ι, env, S, s, er, (Post.bind (Rel' := Rp X.K) p).mono ?_⟩
  rintro x H1 ⟨ι1, dx, S1, e1, s1, r1, p1⟩
  rw [r1.isNon]; exact p1.ret s1 (.bl _)
def rIsBl (b : Bool) : R2 := fun x y H Q => y = .bl b ∧ Q (.bl (decide (x = .bl b))) H
def rNotBl (b : Bool) : R2 := fun x y H Q => y = .bl b ∧ Q (.bl (!decide (x = .bl b))) H
theorem bl_other {b : Bool} {x : V} {v : Value} (r : RelV x v) (h : x ≠ .bl b) : v ≠ .bool b := by
  intro e; subst e
  exact h (r.inj (show RelV (.bl b) (.bool b) from rfl))
theorem plain_isB {x : V} {v : Value} {b : Bool} (r : RelV x v) : plainIs v (.bool b) = true := by
  cases x with
  | non => cases (show v = Value.none from r); rfl
  | bl c => cases (show v = Value.bool c from r); rfl
  | int i => obtain ⟨t, rfl⟩ := r; rfl
  | str i => obtain ⟨t, rfl⟩ := r; rfl
  | byt i => obtain ⟨t, rfl⟩ := r; rfl
  | flt i => obtain ⟨t, rfl⟩ := r; rfl
  | ref a => cases (show v = Value.ref a from r); rfl
  | ty n => cases (show v = Value.type n from r); rfl
theorem op_isB (b : Bool) : OpR X (compareOp .Is) (rIsBl b) := by
  intro pins s σ H x y v u Q I rx ry h
  obtain ⟨rfl, q⟩ := h
  cases (show u = Value.bool b from ry)
  by_cases e : x = .bl b
  · subst e
    cases (show v = Value.bool b from rx)
    exact wpAny_is_self rfl ⟨.bl true, H, I, rfl, by simpa using q⟩
  · exact wpAny_is_other (plain_isB rx) (bl_other rx e) ⟨.bl false, H, I, rfl, by simpa [e] using q⟩
theorem op_notB (b : Bool) : OpR X (compareOp .IsNot) (rNotBl b) := by
  intro pins s σ H x y v u Q I rx ry h
  obtain ⟨rfl, q⟩ := h
  cases (show u = Value.bool b from ry)
  by_cases e : x = .bl b
  · subst e
    cases (show v = Value.bool b from rx)
    exact wpAny_isNot_self rfl ⟨.bl false, H, I, rfl, by simpa using q⟩
  · exact wpAny_isNot_other (plain_isB rx) (bl_other rx e) ⟨.bl true, H, I, rfl, by simpa [e] using q⟩
theorem e_isB {b : Bool} {j pos'} (ha : EE X W a da) : EE X W (.Compare a [.Is] [.Constant (.bool b) j pos'] pos) (dIsB b da) := PE.imp (pe_cmpR (op_isB b) ha pe_bl (nomark _)) fun σ H Q h => by
  obtain ⟨ι, env, S, s, er, p⟩ := h
  refine ⟨ι, env, S, s, er, (Post.bind (Rel' := Rp X.K) p).mono ?_⟩
  rintro x H1 ⟨ι1, dx, S1, e1, s1, r1, p1⟩
  refine ⟨rfl, ?_⟩
  rw [r1.isBl]; exact p1.ret s1 (.bl _)
theorem e_notB {b : Bool} {j pos'} (ha : EE X W a da) : EE X W (.Compare a [.IsNot] [.Constant (.bool b) j pos'] pos) (dNotB b da) := PE.imp (pe_cmpR (op_notB b) ha pe_bl (nomark _)) fun σ H Q h => by
  obtain ⟨ι, env, S, s, er, p⟩ := h
  refine ⟨ι, env, S, s, er, (Post.bind (Rel' := Rp X.K) p).mono ?_⟩
  rintro x H1 ⟨ι1, dx, S1, e1, s1, r1, p1⟩
  refine ⟨rfl, ?_⟩
  rw [r1.isBl]; exact p1.ret s1 (.bl _)
end
end
end Z
end

section
set_option Elab.async false
set_option linter.all false
set_option maxRecDepth 100000
set_option maxHeartbeats 1000000
namespace Z
noncomputable section
open PySem PySem.Spec PyProof.Rows L2

/-! ### bools -/
def asB (x : D) (S : Sto) : R Bool := match x with
  | .bl b => .ok b S
  | _ => .bad
def dAnd (a b : Den) : Den := fun env S => (a env S).bind fun x S1 => (asB x S1).bind fun c S1 => if c then b env S1 else .ok (.bl false) S1
def dOr (a b : Den) : Den := fun env S => (a env S).bind fun x S1 => (asB x S1).bind fun c S1 => if c then .ok (.bl true) S1 else b env S1
def dNot (a : Den) : Den := fun env S => (a env S).bind fun x S1 => (asB x S1).bind fun c S1 => .ok (.bl (!c)) S1
def tB' (a : Den) : DenT := fun env S => (a env S).bind asB
def tAnd' (a b : DenT) : DenT := fun env S => (a env S).bind fun c S1 => if c then b env S1 else .ok false S1
def tOr' (a b : DenT) : DenT := fun env S => (a env S).bind fun c S1 => if c then .ok true S1 else b env S1
def tNot' (a : DenT) : DenT := fun env S => (a env S).bind fun c S1 => .ok (!c) S1
def dIf (t : DenT) (a b : Den) : Den := fun env S => (t env S).bind fun c S1 => if c then a env S1 else b env S1
section
variable {X : Cx} {W : WX} {a b c : Expr} {rest : List Expr} {da db dc : Den} {ta tb : DenT} {pos : Pos}
theorem Post.asB {K : PySem.W.Frag} {mg : Str → Option Value} {σ : L2.St} {H : Hp} {ι : Em} {S : Sto} {x : D} {v : V} {α β : Type} {Rel : Hp → Em → β → α → Prop} {k : Bool → Sto → R α} {Q : β → Hp → Prop} (p : Post K mg Rel W σ ι H ((Z.asB x S).bind k) Q) (r : Rp K H ι v x) :
    ∃ c, x = .bl c ∧ v = .bl c ∧ Post K mg Rel W σ ι H (k c S) Q := by
  cases x with
  | bl c => cases r; exact ⟨c, rfl, rfl, p⟩
  | _ => exact p.elim
theorem e_one {op} (h : EE X W a da) : EE X W (.BoolOp op [a] pos) da := pe_one h
theorem e_and (ha : EE X W a da) (hb : EE X W (.BoolOp .And (b :: rest) pos) db) : EE X W (.BoolOp .And (a :: b :: rest) pos) (dAnd da db) := PE.imp (pe_and ha hb) fun σ H Q h => by
  obtain ⟨ι, env, S, s, er, p⟩ := h
  refine ⟨ι, env, S, s, er, (Post.bind (Rel' := Rp X.K) p).mono ?_⟩
  rintro x H1 ⟨ι1, dx, S1, e1, s1, r1, p1⟩
  obtain ⟨c, rfl, rfl, p2⟩ := p1.asB r1
  refine ⟨c, rfl, ?_⟩
  cases c with
  | true => rw [if_pos rfl]; exact ⟨ι1, env, S1, s1, er.ext e1, p2⟩
  | false => rw [if_neg Bool.false_ne_true]; exact p2.ret s1 (.bl _)
theorem e_or (ha : EE X W a da) (hb : EE X W (.BoolOp .Or (b :: rest) pos) db) : EE X W (.BoolOp .Or (a :: b :: rest) pos) (dOr da db) := PE.imp (pe_or ha hb) fun σ H Q h => by
  obtain ⟨ι, env, S, s, er, p⟩ := h
  refine ⟨ι, env, S, s, er, (Post.bind (Rel' := Rp X.K) p).mono ?_⟩
  rintro x H1 ⟨ι1, dx, S1, e1, s1, r1, p1⟩
  obtain ⟨c, rfl, rfl, p2⟩ := p1.asB r1
  refine ⟨c, rfl, ?_⟩
  cases c with
  | false => rw [if_neg Bool.false_ne_true]; exact ⟨ι1, env, S1, s1, er.ext e1, p2⟩
  | true => rw [if_pos rfl]; exact p2.ret s1 (.bl _)
theorem e_not (ha : EE X W a da) : EE X W (.UnaryOp .Not a pos) (dNot da) := PE.imp (pe_not ha) fun σ H Q h => by
  obtain ⟨ι, env, S, s, er, p⟩ := h
  refine ⟨ι, env, S, s, er, (Post.bind (Rel' := Rp X.K) p).mono ?_⟩
  rintro x H1 ⟨ι1, dx, S1, e1, s1, r1, p1⟩
  obtain ⟨c, rfl, rfl, p2⟩ := p1.asB r1
  exact ⟨c, rfl, p2.ret s1 (.bl _)⟩
/-- a bool's value as a test -/
theorem t_B (h : EE X W a da) (he : ∀ whole, isTrue a X.env whole = (do let v ← whole; standAt a.pos; holding [v] (truthy v)) := by intro _; rfl) : TT' X W a (tB' da) := PT.imp (pt_val h he) fun σ H Q h => by
  obtain ⟨ι, env, S, s, er, p⟩ := h
  refine ⟨ι, env, S, s, er, (Post.bind (Rel' := Rp X.K) p).mono ?_⟩
  rintro x H1 ⟨ι1, dx, S1, e1, s1, r1, p1⟩
  cases dx with
  | bl c => cases r1; exact ⟨c, rfl, p1.ret s1 rfl⟩
  | _ => exact p1.elim
abbrev WW (X : Cx) (W : WX) (e : Expr) (d : DenT) : Prop := PW X e (rdT X.K X.mg W d)
theorem PW.imp {X : Cx} {e : Expr} {t t' : TT} (h : PW X e t) (f : ∀ σ H Q, t' σ H Q → t σ H Q) : PW X e t' := ⟨fun wh pins s σ H Q I q => h.run wh pins s σ H Q I (f σ H Q q)⟩
theorem w_and1 (ha : TT' X W a ta) : WW X W (.BoolOp .And [a] pos) ta := pw_and1 ha
theorem w_or1 (ha : TT' X W a ta) : WW X W (.BoolOp .Or [a] pos) ta := pw_or1 ha
theorem w_and (ha : TT' X W a ta) (hb : WW X W (.BoolOp .And (b :: rest) pos) tb) : WW X W (.BoolOp .And (a :: b :: rest) pos) (tAnd' ta tb) := PW.imp (pw_and ha hb) fun σ H Q h => by
  obtain ⟨ι, env, S, s, er, p⟩ := h
  refine ⟨ι, env, S, s, er, (Post.bind (Rel' := fun _ _ b c => b = c) p).mono ?_⟩
  rintro x H1 ⟨ι1, dx, S1, e1, s1, rfl, p1⟩
  cases x with
  | true => rw [if_pos rfl]; exact ⟨ι1, env, S1, s1, er.ext e1, p1⟩
  | false => rw [if_neg Bool.false_ne_true]; exact p1.ret s1 rfl
theorem w_or (ha : TT' X W a ta) (hb : WW X W (.BoolOp .Or (b :: rest) pos) tb) : WW X W (.BoolOp .Or (a :: b :: rest) pos) (tOr' ta tb) := PW.imp (pw_or ha hb) fun σ H Q h => by
  obtain ⟨ι, env, S, s, er, p⟩ := h
  refine ⟨ι, env, S, s, er, (Post.bind (Rel' := fun _ _ b c => b = c) p).mono ?_⟩
  rintro x H1 ⟨ι1, dx, S1, e1, s1, rfl, p1⟩
  cases x with
  | false => rw [if_neg Bool.false_ne_true]; exact ⟨ι1, env, S1, s1, er.ext e1, p1⟩
  | true => rw [if_pos rfl]; exact p1.ret s1 rfl
theorem t_not (ha : TT' X W a ta) : TT' X W (.UnaryOp .Not a pos) (tNot' ta) := PT.imp (pt_not ha) fun σ H Q h => by
  obtain ⟨ι, env, S, s, er, p⟩ := h
  refine ⟨ι, env, S, s, er, (Post.bind (Rel' := fun _ _ b c => b = c) p).mono ?_⟩
  rintro x H1 ⟨ι1, dx, S1, e1, s1, rfl, p1⟩
  exact p1.ret s1 rfl
theorem e_if (hc : TT' X W c ta) (ha : EE X W a da) (hb : EE X W b db) : EE X W (.IfExp c a b pos) (dIf ta da db) := PE.imp (pe_ifExp hc ha hb) fun σ H Q h => by
  obtain ⟨ι, env, S, s, er, p⟩ := h
  refine ⟨ι, env, S, s, er, (Post.bind (Rel' := fun _ _ b c => b = c) p).mono ?_⟩
  rintro x H1 ⟨ι1, dx, S1, e1, s1, rfl, p1⟩
  cases x with
  | true => rw [if_pos rfl]; exact ⟨ι1, env, S1, s1, er.ext e1, p1⟩
  | false => rw [if_neg Bool.false_ne_true]; exact ⟨ι1, env, S1, s1, er.ext e1, p1⟩
end

/-! ### arguments, tuples, lists -/
def aNil : DenA := fun _ S => .ok [] S
def aCons (a : Den) (r : DenA) : DenA := fun env S => (a env S).bind fun x S1 => (r env S1).bind fun xs S2 => .ok (x :: xs) S2
def dTup (a : DenA) : Den := fun env S => (a env S).bind fun xs S1 => mkT xs S1
def dLst (c : Bool) (a : DenA) : Den := fun env S => (a env S).bind fun xs S1 => mkL c xs S1
section
variable {X : Cx} {W : WX} {e : Expr} {es : List Expr} {d : Den} {da : DenA} {pos : Pos}
theorem a_nil : AA X W [] aNil := PA.imp pa_nil fun σ H Q h => by
  obtain ⟨ι, env, S, s, er, p⟩ := h
  exact p.ret s .nil
theorem a_cons (h : EE X W e d) (hr : AA X W es da) (hs : starEach (e :: es) X.env = (false, eval e X.env) :: starEach es X.env := by rfl) : AA X W (e :: es) (aCons d da) := PA.imp (pa_cons h hr hs) fun σ H Q h => by
  obtain ⟨ι, env, S, s, er, p⟩ := h
  refine ⟨ι, env, S, s, er, (Post.bind (Rel' := Rp X.K) p).mono ?_⟩
  rintro x H1 ⟨ι1, dx, S1, e1, s1, r1, p1⟩
  refine ⟨ι1, env, S1, s1, er.ext e1, (Post.bind (Rel' := Rps X.K) p1).mono ?_⟩
  rintro xs H2 ⟨ι2, dxs, S2, e2, s2, r2, p2⟩
  exact p2.ret s2 (.cons (r1.ext e2) r2)
theorem e_tup {k : Nat} (h : AA X W es da) : EE X W (.Tuple es k pos) (dTup da) := PE.imp (pe_tup h) fun σ H Q h => by
  obtain ⟨ι, env, S, s, er, p⟩ := h
  refine ⟨ι, env, S, s, er, (Post.bind (Rel' := Rps X.K) p).mono ?_⟩
  rintro xs H1 ⟨ι1, dxs, S1, e1, s1, r1, p1⟩
  exact p1.mkT s1 r1
theorem e_lst (c : Bool) (h : AA X W es da) : EE X W (.List es pos) (dLst c da) := PE.imp (pe_lst h) fun σ H Q h => by
  obtain ⟨ι, env, S, s, er, p⟩ := h
  refine ⟨ι, env, S, s, er, (Post.bind (Rel' := Rps X.K) p).mono ?_⟩
  rintro xs H1 ⟨ι1, dxs, S1, e1, s1, r1, p1⟩
  exact p1.mkL s1 r1
end

/-! ### subscripts -/
def fIx (x y : D) (S : Sto) : R D := match y with
  | .int i => match seqOf S x with
    | some xs => match atI xs i with
      | some v => .ok v S
      | none => .bad
    | none => match x with
      | .str z => if Fit z.length then match atI z.cps.toList i with
        | some c => .ok (.str ⟨#[c]⟩) S
        | none => .bad
        else .bad
      | _ => .bad
  | _ => .bad
theorem atI_rp {K : PySem.W.Frag} {H : Hp} {ι : Em} {vs : List V} {ds : List D} {i : Int} {d : D} (r : Rps K H ι vs ds) (e : atI ds i = some d) : ∃ v, atI vs i = some v ∧ Rp K H ι v d := by
  unfold atI at e ⊢
  rw [r.length]
  cases q : ixN ds.length i with
  | none => rw [q] at e; cases e
  | some j =>
    rw [q] at e
    obtain ⟨v, e1, r1⟩ := r.get (i := j) e
    exact ⟨v, e1, r1⟩
theorem sIx {K : PySem.W.Frag} : OpS K (rIx K) fIx := by
  intro mg W σ ι H S x y dx dy Q s rx ry p
  unfold fIx at p
  split at p
  · rename_i i
    cases ry
    split at p
    · rename_i xs e
      split at p
      · rename_i v e2
        obtain ⟨a, vs, rfl, hs, r⟩ := seq_inv s rx e
        obtain ⟨u, e3, r3⟩ := atI_rp r e2
        rcases hs with hs | hs
        · exact .inl ⟨a, vs, i, u, rfl, rfl, hs, e3, p.ret s r3⟩
        · exact .inr (.inl ⟨a, vs, i, u, rfl, rfl, hs, e3, p.ret s r3⟩)
      · exact p.elim
    · cases dx with
      | str z =>
        cases rx
        simp only at p
        split at p
        · rename_i hl
          split at p
          · rename_i c e2
            exact .inr (.inr ⟨z, i, c, rfl, rfl, hl, e2, p.ret s (.str _)⟩)
          · exact p.elim
        · exact p.elim
      | _ => exact p.elim
  · exact p.elim
/-- xs[lo:hi] of a list; of a text; of a tuple -/
def cutD {α : Type} (xs : List α) (lo hi : Option Int) : List α := (xs.drop (HT.sIx xs.length 0 lo)).take (HT.sIx xs.length xs.length hi - HT.sIx xs.length 0 lo)
abbrev DenO := Env → Sto → R (Option Int)
def rdO (K : PySem.W.Frag) (mg : Str → Option Value) (W : WX) (d : DenO) : TO := fun σ H Q => ∃ ι env S, Sr K H ι S ∧ Er K H ι σ env ∧ Post K mg (fun _ _ b c => b = c) W σ ι H (d env S) Q
def oNone : DenO := fun _ S => .ok none S
def asI (x : D) (S : Sto) : R Int := match x with
  | .int i => .ok i S
  | _ => .bad
def oSome (d : Den) : DenO := fun env S => (d env S).bind fun x S1 => (asI x S1).bind fun i S1 => .ok (some i) S1
def fSl (c : Bool) (x : D) (lo hi : Option Int) (S : Sto) : R D := match x with
  | .tup xs => if HT.sIx xs.length 0 lo = 0 ∧ HT.sIx xs.length xs.length hi = xs.length then .ok (.tup xs) S else .ok (.tup (cutD xs lo hi)) S
  | .str z => if Fit z.length then .ok (.str (cutS z lo hi)) S else .bad
  | _ => match lstOf S x with
    | some xs => mkL c (cutD xs lo hi) S
    | none => .bad
def dSl (c : Bool) (a : Den) (lo hi : DenO) : Den := fun env S => (a env S).bind fun x S1 => (lo env S1).bind fun l S2 => (hi env S2).bind fun h S3 => fSl c x l h S3
section
variable {X : Cx} {W : WX} {e : Expr} {d : Den} {lo hi : Option Expr} {tl th : DenO} {pos p2 : Pos}
theorem PO.imp {X : Cx} {e : Option Expr} {t t' : TO} (h : PO X e t) (f : ∀ σ H Q, t' σ H Q → t σ H Q) : PO X e t' := ⟨fun pins s σ H Q I q => h.run pins s σ H Q I (f σ H Q q)⟩
abbrev OO (X : Cx) (W : WX) (e : Option Expr) (d : DenO) : Prop := PO X e (rdO X.K X.mg W d)
theorem o_none : OO X W none oNone := PO.imp po_none fun σ H Q h => by
  obtain ⟨ι, env, S, s, er, p⟩ := h
  exact p.ret s rfl
theorem o_some (h : EE X W e d) : OO X W (some e) (oSome d) := PO.imp (po_some h) fun σ H Q h => by
  obtain ⟨ι, env, S, s, er, p⟩ := h
  refine ⟨ι, env, S, s, er, (Post.bind (Rel' := Rp X.K) p).mono ?_⟩
  rintro x H1 ⟨ι1, dx, S1, e1, s1, r1, p1⟩
  cases dx with
  | int i => cases r1; exact ⟨i, rfl, p1.ret s1 rfl⟩
  | _ => exact p1.elim
def rSlZ (K : PySem.W.Frag) : V → Option Int → Option Int → Hp → VK → Prop := fun x lo hi H Q => rSlL K x lo hi H Q ∨ rSlS x lo hi H Q ∨ rSlA K x lo hi H Q
theorem sl_Z : SlR X (rSlZ X.K) := sl_list.or (sl_str.or sl_tupA)
theorem cutD_rp {K : PySem.W.Frag} {H : Hp} {ι : Em} {vs : List V} {ds : List D} (r : Rps K H ι vs ds) (l h : Option Int) : Rps K H ι (cutV vs l h) (cutD ds l h) := by
  unfold cutV cutD
  rw [r.length]
  exact (r.drop _).take _
theorem cutD_len {α : Type} (xs : List α) (lo hi : Option Int) : (cutD xs lo hi).length ≤ xs.length := by
  unfold cutD; rw [List.length_take, List.length_drop]; omega
theorem e_sl (c : Bool) (he : EE X W e d) (hl : OO X W lo tl) (hu : OO X W hi th) : EE X W (.Subscript e (.Slice lo hi none p2) pos) (dSl c d tl th) := PE.imp (pe_slice sl_Z he hl hu) fun σ H Q h => by
  obtain ⟨ι, env, S, s, er, p⟩ := h
  refine ⟨ι, env, S, s, er, (Post.bind (Rel' := Rp X.K) p).mono ?_⟩
  rintro x H1 ⟨ι1, dx, S1, e1, s1, r1, p1⟩
  refine ⟨ι1, env, S1, s1, er.ext e1, (Post.bind (Rel' := fun _ _ b c => b = c) p1).mono ?_⟩
  rintro l H2 ⟨ι2, _, S2, e2, s2, rfl, p2⟩
  refine ⟨ι2, env, S2, s2, (er.ext e1).ext e2, (Post.bind (Rel' := fun _ _ b c => b = c) p2).mono ?_⟩
  rintro h H3 ⟨ι3, _, S3, e3, s3, rfl, p3⟩
  have rx := (r1.ext e2).ext e3
  have lst : ∀ xs, lstOf S3 dx = some xs → Post X.K X.mg (Rp X.K) W σ ι3 H3 (mkL c (cutD xs l h) S3) Q → rSlZ X.K x l h H3 Q := fun xs e4 p4 => by
    obtain ⟨a, vs, rfl, hs, r⟩ := lst_inv s3 rx e4
    exact .inl ⟨a, vs, rfl, hs, (p4.mkL s3 (cutD_rp r l h)).2⟩
  cases dx with
  | tup xs =>
    obtain ⟨a, vs, rfl, hs, r⟩ := rx.tup_inv
    refine .inr (.inr ⟨a, vs, rfl, hs, ?_, ?_⟩)
    · intro hw
      simp only [fSl] at p3
      rw [r.length] at hw
      rw [if_pos hw] at p3
      exact p3.ret s3 rx
    · intro hw q hq
      simp only [fSl] at p3
      rw [r.length] at hw
      rw [if_neg hw] at p3
      exact p3 _ _ _ (Ext.new hq) (s3.new hq) (.tup (s3.out hq) upd_same ((cutD_rp r l h).ext (Ext.new hq)))
  | str z =>
    cases rx
    simp only [fSl] at p3
    split at p3
    · rename_i hz; exact .inr (.inl ⟨z, rfl, hz, p3.ret s3 (.str _)⟩)
    · exact p3.elim
  | lst xs => simp only [fSl, lstOf] at p3; exact lst xs rfl p3
  | frz xs => simp only [fSl, lstOf] at p3; exact lst xs rfl p3
  | ref n =>
    simp only [fSl] at p3
    split at p3
    · rename_i xs e4; exact lst xs e4 p3
    · exact p3.elim
  | _ => exact p3.elim
end
end
end Z
end

section
set_option Elab.async false
set_option linter.all false
set_option maxRecDepth 100000
set_option maxHeartbeats 1000000
namespace Z
noncomputable section
open PySem PySem.Spec PyProof.Rows L2

/-! ### ==, in -/
mutual
def pyD : D → Option PyData
  | .non => some .none
  | .bl b => some (.bool b)
  | .int i => some (.int i)
  | .str x => some (.str x)
  | .tup xs => (pyA xs).map .tuple
  | .lst xs => (pyA xs).map .list
  | .frz xs => (pyA xs).map .list
  | .ref _ => none
  | .err _ _ _ _ => none
def pyA : List D → Option (List PyData)
  | [] => some []
  | x :: xs => (pyD x).bind fun p => (pyA xs).map fun ps => p :: ps
end
def pyS (S : Sto) (x : D) : Option PyData := match x with
  | .ref n => match S[n]? with
    | some (.lst xs) => (pyA xs).map .list
    | none => none
  | x => pyD x
section
variable {K : PySem.W.Frag} {H : Hp} {ι : Em}
mutual
theorem dp_of : ∀ {d : D} {v : V} {p : PyData}, Rp K H ι v d → pyD d = some p → Dp K H v p
  | .non, _, _, r, e => by cases r; cases e; exact .non
  | .bl b, _, _, r, e => by cases r; cases e; exact .bl b
  | .int b, _, _, r, e => by cases r; cases e; exact .int b
  | .str b, _, _, r, e => by cases r; cases e; exact .str b
  | .tup xs, _, _, r, e => by
    obtain ⟨a, vs, rfl, hs, rs⟩ := r.tup_inv
    rw [pyD] at e
    cases q : pyA xs with
    | none => rw [q] at e; cases e
    | some ps => rw [q] at e; cases e; exact .tup hs (dps_of rs q)
  | .lst xs, _, _, r, e => by
    obtain ⟨a, vs, rfl, _, hs, rs⟩ := r.lst_inv
    rw [pyD] at e
    cases q : pyA xs with
    | none => rw [q] at e; cases e
    | some ps => rw [q] at e; cases e; exact .lst (.of hs) (dps_of rs q)
  | .frz xs, _, _, r, e => by
    obtain ⟨a, vs, rfl, hs, rs⟩ := r.frz_inv
    rw [pyD] at e
    cases q : pyA xs with
    | none => rw [q] at e; cases e
    | some ps => rw [q] at e; cases e; exact .lst hs (dps_of rs q)
  | .ref _, _, _, _, e => by rw [pyD] at e; cases e
  | .err _ _ _ _, _, _, _, e => by rw [pyD] at e; cases e
theorem dps_of : ∀ {ds : List D} {vs : List V} {ps : List PyData}, Rps K H ι vs ds → pyA ds = some ps → DpAll K H vs ps
  | [], _, _, r, e => by cases r; cases e; exact .nil
  | d :: ds, _, _, r, e => by
    cases r with
    | cons r rs =>
      rw [pyA] at e
      cases q : pyD d with
      | none => rw [q] at e; cases e
      | some p =>
        rw [q] at e
        cases q2 : pyA ds with
        | none => rw [q2] at e; cases e
        | some ps => rw [q2] at e; cases e; exact .cons (dp_of r q) (dps_of rs q2)
end
theorem dpS_of {S : Sto} (s : Sr K H ι S) {d : D} {v : V} {p : PyData} (r : Rp K H ι v d) (e : pyS S d = some p) : Dp K H v p := by
  cases d with
  | ref n =>
    obtain ⟨a, rfl, e2⟩ := r.ref_inv
    simp only [pyS] at e
    split at e
    · rename_i xs e3
      obtain ⟨vs, h1, h2⟩ := s.list e2 e3
      cases q : pyA xs with
      | none => rw [q] at e; cases e
      | some ps => rw [q] at e; cases e; exact .lst (.of h1) (dps_of h2 q)
    · cases e
  | _ => exact dp_of r e
end
def eqN (neg : Bool) (x y : D) (S : Sto) : R D := match pyS S x, pyS S y with
  | some p, some q => if SeqAt.shaped p = true ∧ SeqAt.shaped q = true then .ok (.bl (if neg then !(PyData.eqv p q) else PyData.eqv p q)) S else .bad
  | _, _ => .bad
/-- == (neg: !=) -/
def fEq (neg : Bool) (x y : D) (S : Sto) : R D := match x with
  | .int i => match y with
    | .int j => .ok (.bl (if neg then !decide (i = j) else decide (i = j))) S
    | .non => .ok (.bl neg) S
    | .str _ => .ok (.bl neg) S
    | _ => eqN neg x y S
  | .str i => match y with
    | .str j => .ok (.bl (if neg then !decide (i = j) else decide (i = j))) S
    | .non => .ok (.bl neg) S
    | .int _ => .ok (.bl neg) S
    | .bl _ => .ok (.bl neg) S
    | _ => eqN neg x y S
  | .bl i => match y with
    | .bl j => .ok (.bl (if neg then !decide (i = j) else decide (i = j))) S
    | .non => .ok (.bl neg) S
    | .str _ => .ok (.bl neg) S
    | _ => eqN neg x y S
  | _ => eqN neg x y S
section
variable {K : PySem.W.Frag} {X : Cx}
def rEqZ (K : PySem.W.Frag) : R2 := fun x y H Q => rEq x y H Q ∨ rEqD K x y H Q
def rNeZ (K : PySem.W.Frag) : R2 := fun x y H Q => rNe x y H Q ∨ rNeD K x y H Q
theorem oEq (hu : X.A.units + 64 < cLine) : OpR X (compareOp .Eq) (rEqZ X.K) := op_eq.or (op_eqD hu)
theorem oNe (hu : X.A.units + 64 < cLine) : OpR X (compareOp .NotEq) (rNeZ X.K) := op_ne.or (op_neD hu)
theorem eqN_ok {mg : Str → Option Value} {W : WX} {σ : L2.St} {ι : Em} {H : Hp} {S : Sto} {x y : V} {dx dy : D} {Q : VK} {neg : Bool} (s : Sr K H ι S) (rx : Rp K H ι x dx) (ry : Rp K H ι y dy) (p : Post K mg (Rp K) W σ ι H (eqN neg dx dy S) Q) :
    ∃ d e, Dp K H x d ∧ Dp K H y e ∧ SeqAt.shaped d = true ∧ SeqAt.shaped e = true ∧ Q (.bl (if neg then !(PyData.eqv d e) else PyData.eqv d e)) H := by
  unfold eqN at p
  split at p
  · rename_i d e h1 h2
    split at p
    · rename_i hs
      exact ⟨d, e, dpS_of s rx h1, dpS_of s ry h2, hs.1, hs.2, p.ret s (.bl _)⟩
    · exact p.elim
  · exact p.elim
theorem fEq_ok {mg : Str → Option Value} {W : WX} {σ : L2.St} {ι : Em} {H : Hp} {S : Sto} {x y : V} {dx dy : D} {Q : VK} {neg : Bool} (s : Sr K H ι S) (rx : Rp K H ι x dx) (ry : Rp K H ι y dy) (p : Post K mg (Rp K) W σ ι H (fEq neg dx dy S) Q) :
    (scal x y = true ∧ Q (.bl (if neg then !decide (x = y) else decide (x = y))) H) ∨ ∃ d e, Dp K H x d ∧ Dp K H y e ∧ SeqAt.shaped d = true ∧ SeqAt.shaped e = true ∧ Q (.bl (if neg then !(PyData.eqv d e) else PyData.eqv d e)) H := by
  have hF : ∀ (a b : V), a ≠ b → (if neg = true then !decide (a = b) else decide (a = b)) = neg := fun a b h => by
    rw [decide_eq_false h]; cases neg <;> rfl
  have fin : ∀ (a b : V), scal a b = true → a ≠ b → x = a → y = b → Post K mg (Rp K) W σ ι H (.ok (.bl neg) S) Q → (scal x y = true ∧ Q (.bl (if neg then !decide (x = y) else decide (x = y))) H) := fun a b h1 h2 e1 e2 p => by
    subst e1; subst e2
    exact ⟨h1, by rw [hF _ _ h2]; exact p.ret s (.bl _)⟩
  cases dx with
  | int i =>
    cases rx
    cases dy with
    | int j => cases ry; exact .inl ⟨rfl, by have q := p.ret s (.bl _); simpa using q⟩
    | non => cases ry; exact .inl (fin _ _ rfl (by simp) rfl rfl p)
    | str j => cases ry; exact .inl (fin _ _ rfl (by simp) rfl rfl p)
    | _ => exact .inr (eqN_ok s (.int i) ry p)
  | str i =>
    cases rx
    cases dy with
    | str j => cases ry; exact .inl ⟨rfl, by have q := p.ret s (.bl _); simpa using q⟩
    | non => cases ry; exact .inl (fin _ _ rfl (by simp) rfl rfl p)
    | int j => cases ry; exact .inl (fin _ _ rfl (by simp) rfl rfl p)
    | bl j => cases ry; exact .inl (fin _ _ rfl (by simp) rfl rfl p)
    | _ => exact .inr (eqN_ok s (.str i) ry p)
  | bl i =>
    cases rx
    cases dy with
    | bl j => cases ry; exact .inl ⟨rfl, by have q := p.ret s (.bl _); simpa using q⟩
    | non => cases ry; exact .inl (fin _ _ rfl (by simp) rfl rfl p)
    | str j => cases ry; exact .inl (fin _ _ rfl (by simp) rfl rfl p)
    | _ => exact .inr (eqN_ok s (.bl i) ry p)
  | _ => exact .inr (eqN_ok s rx ry p)
theorem sEq : OpS K (rEqZ K) (fEq false) := fun mg W σ ι H S x y dx dy Q s rx ry p => fEq_ok s rx ry p
theorem sNe : OpS K (rNeZ K) (fEq true) := fun mg W σ ι H S x y dx dy Q s rx ry p => fEq_ok s rx ry p
/-- flat data as a value -/
def flatD : D → Option V
  | .non => some .non
  | .bl b => some (.bl b)
  | .int i => some (.int i)
  | .str x => some (.str x)
  | _ => none
def flatA : List D → Option (List V)
  | [] => some []
  | x :: xs => (flatD x).bind fun p => (flatA xs).map fun ps => p :: ps
theorem flatD_of {H : Hp} {ι : Em} {v w : V} {d : D} (r : Rp K H ι v d) (e : flatD d = some w) : v = w ∧ flatV v = true := by
  cases r <;> simp [flatD] at e <;> subst e <;> exact ⟨rfl, rfl⟩
theorem flatA_of {H : Hp} {ι : Em} : ∀ {ds : List D} {vs ws : List V}, Rps K H ι vs ds → flatA ds = some ws → vs = ws ∧ vs.all flatV = true
  | [], _, _, r, e => by cases r; cases e; exact ⟨rfl, rfl⟩
  | d :: ds, _, _, r, e => by
    cases r with
    | cons r rs =>
      rw [flatA] at e
      cases q : flatD d with
      | none => rw [q] at e; cases e
      | some p =>
        rw [q] at e
        cases q2 : flatA ds with
        | none => rw [q2] at e; cases e
        | some ps =>
          rw [q2] at e; cases e
          obtain ⟨h1, h2⟩ := flatD_of r q
          obtain ⟨h3, h4⟩ := flatA_of rs q2
          subst h1; subst h3
          exact ⟨rfl, by rw [List.all_cons, h2, h4]; rfl⟩
/-- x in a list or tuple, flat items -/
def fIn (neg : Bool) (x y : D) (S : Sto) : R D := match seqOf S y, flatD x with
  | some ys, some v => match flatA ys with
    | some vs => .ok (.bl (if neg then !inV v vs else inV v vs)) S
    | none => .bad
  | _, _ => .bad
theorem sIn {neg : Bool} : OpS K (rIn K neg) (fIn neg) := by
  intro mg W σ ι H S x y dx dy Q s rx ry p
  unfold fIn at p
  split at p
  · rename_i ys v e1 e2
    split at p
    · rename_i vs e3
      obtain ⟨a, us, rfl, hs, rs⟩ := seq_inv s ry e1
      obtain ⟨rfl, f1⟩ := flatD_of rx e2
      obtain ⟨rfl, f2⟩ := flatA_of rs e3
      exact ⟨a, us, rfl, hs, f1, f2, p.ret s (.bl _)⟩
    · exact p.elim
  · exact p.elim
end

/-! ### isinstance -/
inductive Ty where
  | int | tup | str | bool | list
def Ty.nm : Ty → String
  | .int => "int" | .tup => "tuple" | .str => "str" | .bool => "bool" | .list => "list"
def isTy : Ty → D → Bool
  | .int, .int _ => true
  | .int, .bl _ => true
  | .bool, .bl _ => true
  | .str, .str _ => true
  | .tup, .tup _ => true
  | .list, .lst _ => true
  | .list, .frz _ => true
  | .list, .ref _ => true
  | _, _ => false
def refOk (S : Sto) : D → Bool
  | .ref n => match S[n]? with
    | some (.lst _) => true
    | none => false
  | .err _ _ _ _ => false
  | _ => true
def fIsi (t : Ty) (x : D) (S : Sto) : R D := if refOk S x = true then .ok (.bl (isTy t x)) S else .bad
def dIsi (t : Ty) (a : Den) : Den := fun env S => (a env S).bind fun x S1 => fIsi t x S1
section
variable {X : Cx} {W : WX} {a : Expr} {da : Den} {p q pos : Pos}
theorem StT.ty {K : PySem.W.Frag} {H : Hp} {a : Addr} {xs : List V} (h : StT K a xs) : TyX K H (.ref a) (.type "tuple") := by
  obtain ⟨o, its, n, e, c, _⟩ := h; exact .kTuple e c
theorem StL.ty {K : PySem.W.Frag} {H : Hp} {a : Addr} {xs : List V} (h : StL K a xs) : TyX K H (.ref a) (.type "list") := by
  obtain ⟨o, its, n, e, c, _⟩ := h; exact .kList e c
theorem isi_ok {K : PySem.W.Frag} {H : Hp} {ι : Em} {S : Sto} {v : V} {d : D} {t : Ty} (s : Sr K H ι S) (r : Rp K H ι v d) (hr : refOk S d = true) : ∃ tv, TyX K H v tv ∧ PySem.W.kitOne K tv (.type t.nm) = some (isTy t d) := by
  cases r with
  | non => exact ⟨_, .base .non, by cases t <;> exact kit_ty (by decide +kernel)⟩
  | bl b => exact ⟨_, .base (.bl b), by cases t <;> exact kit_ty (by simp only [isTy]; decide +kernel)⟩
  | int b => exact ⟨_, .base (.int b), by cases t <;> exact kit_ty (by simp only [isTy]; decide +kernel)⟩
  | str b => exact ⟨_, .base (.str b), by cases t <;> exact kit_ty (by simp only [isTy]; decide +kernel)⟩
  | tup _ h2 _ => exact ⟨_, .base (.tup h2), by cases t <;> exact kit_ty (by simp only [isTy]; decide +kernel)⟩
  | tupK h _ => exact ⟨_, h.ty, by cases t <;> exact kit_ty (by simp only [isTy]; decide +kernel)⟩
  | lst _ h2 _ => exact ⟨_, .base (.lst h2), by cases t <;> exact kit_ty (by simp only [isTy]; decide +kernel)⟩
  | frz _ h2 _ => exact ⟨_, .base (.frz h2), by cases t <;> exact kit_ty (by simp only [isTy]; decide +kernel)⟩
  | frzK h _ => exact ⟨_, h.ty, by cases t <;> exact kit_ty (by simp only [isTy]; decide +kernel)⟩
  | ref h =>
    simp only [refOk] at hr
    split at hr
    · rename_i xs e
      obtain ⟨vs, h1, _⟩ := s.list h e
      exact ⟨_, .base (.lst h1), by cases t <;> exact kit_ty (by simp only [isTy]; decide +kernel)⟩
    · cases hr
  | err _ _ _ => cases hr
theorem e_isi (t : Ty) {x : Str} (hx : x = Str.ofString t.nm) (hg : Gl X "isinstance") (hm : X.mg "isinstance" = none) (hg2 : Gl X x) (hm2 : X.mg x = none) (ha : EE X W a da)
    (hs : starEach [a, .Name x q] X.env = (false, eval a X.env) :: starEach [.Name x q] X.env := by rfl) (hs2 : starEach [.Name x q] X.env = (false, eval (.Name x q) X.env) :: starEach [] X.env := by rfl) (hpl : (backTo pos (starEach [.Name x q] X.env)).any (·.1) = false := by rfl) :
    EE X W (.Call (.Name "isinstance" p) [a, .Name x q] [] pos) (dIsi t da) := by
  have hv : bootBuiltins x = some (.type t.nm) := by subst hx; cases t <;> decide +kernel
  have hn : x ≠ "__name__" := by subst hx; cases t <;> decide
  have hd : (x == ("__debug__" : Str)) = false := by subst hx; cases t <;> decide
  refine PE.imp (pe_callB call_isi hg hm (by decide +kernel) (pa_cons ha (pa_cons (pe_bltn (v := .ty t.nm) hg2 hm2 hv rfl hn hd) pa_nil hs2) hs) (by decide) (by decide) hs hpl) fun σ H Q h => ?_
  obtain ⟨ι, env, S, s, er, p⟩ := h
  refine ⟨ι, env, S, s, er, (Post.bind (Rel' := Rp X.K) p).mono ?_⟩
  rintro x H1 ⟨ι1, dx, S1, e1, s1, r1, p1⟩
  unfold fIsi at p1
  split at p1
  · rename_i hr
    obtain ⟨tv, h1, h2⟩ := isi_ok (t := t) s1 r1 hr
    exact ⟨x, .ty t.nm, tv, .type t.nm, isTy t dx, rfl, .ty _, h1, h2, p1.ret s1 (.bl _)⟩
  · exact p1.elim
end

/-! ### built-in functions by their rules -/
def dCB (f : List D → Sto → R D) (a : DenA) : Den := fun env S => (a env S).bind fun xs S1 => f xs S1
def CbS (K : PySem.W.Frag) (r : List V → Hp → VK → Prop) (f : List D → Sto → R D) : Prop :=
  ∀ (mg : Str → Option Value) (W : WX) (σ : L2.St) (ι : Em) (H : Hp) (S : Sto) (xs : List V) (ds : List D) (Q : VK), Sr K H ι S → Rps K H ι xs ds → Post K mg (Rp K) W σ ι H (f ds S) Q → r xs H Q
section
variable {X : Cx} {W : WX} {x : Str} {p pos : Pos} {e : Expr} {es : List Expr} {da : DenA} {id T : String} {r : List V → Hp → VK → Prop} {f : List D → Sto → R D}
theorem rd_cb {K : PySem.W.Frag} {mg : Str → Option Value} {σ : L2.St} {H : Hp} {Q : VK} (hf : CbS K r f) (h : rd K mg W (dCB f da) σ H Q) : tCB r (rdA K mg W da) σ H Q := by
  obtain ⟨ι, env, S, s, er, p⟩ := h
  refine ⟨ι, env, S, s, er, (Post.bind (Rel' := Rps K) p).mono ?_⟩
  rintro x H1 ⟨ι1, dx, S1, e1, s1, r1, p1⟩
  exact hf mg W σ ι1 H1 S1 x dx Q s1 r1 p1
theorem e_cb (hc : CallR X (.builtin id) r) (hf : CbS X.K r f) (hg : Gl X x) (hm : X.mg x = none) (hv : bootBuiltins x = some (.builtin id)) (ha : AA X W (e :: es) da) (hn : x ≠ "__name__" := by decide) (hdb : (x == ("__debug__" : Str)) = false := by decide)
    (he : starEach (e :: es) X.env = (false, eval e X.env) :: starEach es X.env := by rfl) (hpl : (backTo pos (starEach es X.env)).any (·.1) = false := by rfl) : EE X W (.Call (.Name x p) (e :: es) [] pos) (dCB f da) := PE.imp (pe_callB hc hg hm hv ha hn hdb he hpl) fun _ _ _ h => rd_cb hf h
theorem e_ct (hc : CallR X (.type T) r) (hf : CbS X.K r f) (hg : Gl X x) (hm : X.mg x = none) (hv : bootBuiltins x = some (.type T)) (ha : AA X W (e :: es) da) (hn : x ≠ "__name__" := by decide) (hdb : (x == ("__debug__" : Str)) = false := by decide)
    (he : starEach (e :: es) X.env = (false, eval e X.env) :: starEach es X.env := by rfl) (hpl : (backTo pos (starEach es X.env)).any (·.1) = false := by rfl) : EE X W (.Call (.Name x p) (e :: es) [] pos) (dCB f da) := PE.imp (pe_callTy hc hg hm hv ha hn hdb he hpl) fun _ _ _ h => rd_cb hf h
theorem e_cf (hc : CallR X (.builtin id) r) (hf : CbS X.K r f) (hg : Gl X x) (hm : X.mg x = some (.builtin id)) (ha : AA X W (e :: es) da) (hdb : (x == ("__debug__" : Str)) = false := by decide)
    (he : starEach (e :: es) X.env = (false, eval e X.env) :: starEach es X.env := by rfl) (hpl : (backTo pos (starEach es X.env)).any (·.1) = false := by rfl) : EE X W (.Call (.Name x p) (e :: es) [] pos) (dCB f da) := PE.imp (pe_callBfun hc hg hm ha hdb he hpl) fun _ _ _ h => rd_cb hf h
end
def fLen (xs : List D) (S : Sto) : R D := match xs with
  | [x] => match seqOf S x with
    | some ys => .ok (.int ys.length) S
    | none => match x with
      | .str z => if Fit z.length then .ok (.int z.length) S else .bad
      | _ => .bad
  | _ => .bad
def fMax2 (xs : List D) (S : Sto) : R D := match xs with
  | [.int i, .int j] => .ok (.int (if j > i then j else i)) S
  | _ => .bad
def fMin2 (xs : List D) (S : Sto) : R D := match xs with
  | [.int i, .int j] => .ok (.int (if j < i then j else i)) S
  | _ => .bad
def fInt (xs : List D) (S : Sto) : R D := match xs with
  | [.int i] => .ok (.int i) S
  | [.bl b] => .ok (.int (if b then 1 else 0)) S
  | _ => .bad
def fAbs (xs : List D) (S : Sto) : R D := match xs with
  | [.int i] => .ok (.int (if i < 0 then -i else i)) S
  | _ => .bad
def fGcd (xs : List D) (S : Sto) : R D := match xs with
  | [.int i, .int j] => .ok (.int ((Nat.gcd i.natAbs j.natAbs : Nat) : Int)) S
  | _ => .bad
def fList (c : Bool) (xs : List D) (S : Sto) : R D := match xs with
  | [x] => match seqOf S x with
    | some ys => mkL c ys S
    | none => .bad
  | _ => .bad
def fTuple (xs : List D) (S : Sto) : R D := match xs with
  | [.tup ys] => .ok (.tup ys) S
  | [x] => match lstOf S x with
    | some ys => mkT ys S
    | none => .bad
  | _ => .bad
section
variable {K : PySem.W.Frag}
theorem rps1 {H : Hp} {ι : Em} {xs : List V} {d : D} (r : Rps K H ι xs [d]) : ∃ x, xs = [x] ∧ Rp K H ι x d := by
  cases r with | cons r rs => cases rs; exact ⟨_, rfl, r⟩
theorem rps2 {H : Hp} {ι : Em} {xs : List V} {d e : D} (r : Rps K H ι xs [d, e]) : ∃ x y, xs = [x, y] ∧ Rp K H ι x d ∧ Rp K H ι y e := by
  cases r with | cons r rs => cases rs with | cons r2 rs => cases rs; exact ⟨_, _, rfl, r, r2⟩
theorem rps3 {H : Hp} {ι : Em} {xs : List V} {d e f : D} (r : Rps K H ι xs [d, e, f]) : ∃ x y z, xs = [x, y, z] ∧ Rp K H ι x d ∧ Rp K H ι y e ∧ Rp K H ι z f := by
  cases r with | cons r rs => cases rs with | cons r2 rs => cases rs with | cons r3 rs => cases rs; exact ⟨_, _, _, rfl, r, r2, r3⟩
theorem sLen : CbS K (fun xs H Q => ∃ x n, xs = [x] ∧ LenV K x H n ∧ Q (.int n) H) fLen := by
  intro mg W σ ι H S xs ds Q s r p
  unfold fLen at p
  split at p
  · rename_i d
    obtain ⟨x, rfl, r0⟩ := rps1 r
    clear r
    split at p
    · rename_i ys e
      obtain ⟨a, vs, rfl, hs, rs⟩ := seq_inv s r0 e
      refine ⟨_, _, rfl, ?_, p.ret s (.int _)⟩
      rcases hs with hs | hs
      · exact .inl ⟨vs, hs, by rw [rs.length]⟩
      · exact .inr ⟨vs, hs, by rw [rs.length]⟩
    · cases d with
      | str z =>
        cases r0
        simp only at p
        split at p
        · rename_i hz; exact ⟨.str z, z.length, rfl, ⟨hz, rfl⟩, p.ret s (.int _)⟩
        · exact p.elim
      | _ => exact p.elim
  · exact p.elim
theorem sMax2 : CbS K (fun xs H Q => ∃ i j, xs = [.int i, .int j] ∧ Q (.int (if j > i then j else i)) H) fMax2 := by
  intro mg W σ ι H S xs ds Q s r p
  unfold fMax2 at p
  split at p
  · obtain ⟨x, y, rfl, r1, r2⟩ := rps2 r
    cases r1; cases r2; exact ⟨_, _, rfl, p.ret s (.int _)⟩
  · exact p.elim
theorem sMin2 : CbS K (fun xs H Q => ∃ i j, xs = [.int i, .int j] ∧ Q (.int (if j < i then j else i)) H) fMin2 := by
  intro mg W σ ι H S xs ds Q s r p
  unfold fMin2 at p
  split at p
  · obtain ⟨x, y, rfl, r1, r2⟩ := rps2 r
    cases r1; cases r2; exact ⟨_, _, rfl, p.ret s (.int _)⟩
  · exact p.elim
theorem sInt : CbS K (fun xs H Q => (∃ i, xs = [.int i] ∧ Q (.int i) H) ∨ ∃ k, xs = [.bl k] ∧ Q (.int (if k then 1 else 0)) H) fInt := by
  intro mg W σ ι H S xs ds Q s r p
  unfold fInt at p
  split at p
  · obtain ⟨x, rfl, r1⟩ := rps1 r
    cases r1; exact .inl ⟨_, rfl, p.ret s (.int _)⟩
  · obtain ⟨x, rfl, r1⟩ := rps1 r
    cases r1; exact .inr ⟨_, rfl, p.ret s (.int _)⟩
  · exact p.elim
theorem sAbs : CbS K (fun xs H Q => ∃ i, xs = [.int i] ∧ Q (.int (if i < 0 then -i else i)) H) fAbs := by
  intro mg W σ ι H S xs ds Q s r p
  unfold fAbs at p
  split at p
  · obtain ⟨x, rfl, r1⟩ := rps1 r
    cases r1; exact ⟨_, rfl, p.ret s (.int _)⟩
  · exact p.elim
theorem sGcd : CbS K rGcd fGcd := by
  intro mg W σ ι H S xs ds Q s r p
  unfold fGcd at p
  split at p
  · obtain ⟨x, y, rfl, r1, r2⟩ := rps2 r
    cases r1; cases r2; exact ⟨_, _, rfl, p.ret s (.int _)⟩
  · exact p.elim
theorem sList (c : Bool) : CbS K (fun xs H Q => ∃ p ys, xs = [.ref p] ∧ (SqL K H p ys ∨ SqT K H p ys) ∧ ∀ l, H l = none → Q (.ref l) (upd H l (.lst ys))) (fList c) := by
  intro mg W σ ι H S xs ds Q s r p
  unfold fList at p
  split at p
  · obtain ⟨x, rfl, r0⟩ := rps1 r
    clear r
    split at p
    · rename_i ys e
      obtain ⟨a, vs, rfl, hs, rs⟩ := seq_inv s r0 e
      exact ⟨a, vs, rfl, hs, (p.mkL s rs).2⟩
    · exact p.elim
  · exact p.elim
theorem sTuple : CbS K (fun xs H Q => ∃ p ys, xs = [.ref p] ∧ ((SqL K H p ys ∧ ∀ l, H l = none → Q (.ref l) (upd H l (.tup ys))) ∨ (SqT K H p ys ∧ Q (.ref p) H))) fTuple := by
  intro mg W σ ι H S xs ds Q s r p
  unfold fTuple at p
  split at p
  · obtain ⟨x, rfl, r0⟩ := rps1 r
    clear r
    obtain ⟨a, vs, rfl, hs, rs⟩ := r0.tup_inv
    exact ⟨a, vs, rfl, .inr ⟨hs, p.ret s r0⟩⟩
  · obtain ⟨x, rfl, r0⟩ := rps1 r
    clear r
    split at p
    · rename_i ys e
      obtain ⟨a, vs, rfl, hs, rs⟩ := lst_inv s r0 e
      exact ⟨a, vs, rfl, .inl ⟨hs, (p.mkT s rs).2⟩⟩
    · exact p.elim
  · exact p.elim
end
end
end Z
end

section
set_option Elab.async false
set_option linter.all false
set_option maxRecDepth 100000
set_option maxHeartbeats 1000000
namespace Z
noncomputable section
open PySem PySem.Spec PyProof.Rows L2

/-! ### statements -/
inductive F where
  | nx (e : Env) (S : Sto)
  | rt (d : D) (S : Sto)
  | bk (e : Env) (S : Sto)
  | ct (e : Env) (S : Sto)
  | ex (c : Str) (fs : List (Str × D)) (e : Env) (S : Sto)
  | bad
abbrev SDen := Env → Sto → F
def R.lift {α : Type} (r : R α) (e : Env) (k : α → Sto → F) : F := match r with
  | .ok a S => k a S
  | .ex c fs S => .ex c fs e S
  | .bad => .bad
def F.then (f : F) (k : SDen) : F := match f with
  | .nx e S => k e S
  | f => f
def PostS (K : PySem.W.Frag) (mg : Str → Option Value) (W : WX) (ι : Em) (H : Hp) (f : F) (Dn : Ends) : Prop := match f with
  | .nx e S' => ∀ ι' H' σ', Ext ι H ι' H' → Sr K H' ι' S' → Er K H' ι' σ' e → Dn.nx σ' H'
  | .rt d S' => ∀ ι' H' v, Ext ι H ι' H' → Sr K H' ι' S' → Rp K H' ι' v d → Dn.rt v H'
  | .bk e S' => ∀ ι' H' σ', Ext ι H ι' H' → Sr K H' ι' S' → Er K H' ι' σ' e → Dn.bk σ' H'
  | .ct e S' => ∀ ι' H' σ', Ext ι H ι' H' → Sr K H' ι' S' → Er K H' ι' σ' e → Dn.ct σ' H'
  | .ex c fs e S' => ∀ ι' H' σ' dd C gs, Ext ι H ι' H' → Sr K H' ι' S' → Er K H' ι' σ' e → mg c = some (.ref C) → H' dd = some (.xd ((fs.map (·.1)).zip gs)) → ¬ ι'.has dd → Rps K H' ι' gs (fs.map (·.2)) → W (.ref C) (some dd) σ' H'
  | .bad => False
def rdS (K : PySem.W.Frag) (mg : Str → Option Value) (W : WX) (d : SDen) : TS := fun Dn σ H => ∃ ι env S, Sr K H ι S ∧ Er K H ι σ env ∧ PostS K mg W ι H (d env S) Dn
section
variable {K : PySem.W.Frag} {mg : Str → Option Value} {W : WX} {σ : L2.St} {ι ι' : Em} {H H' : Hp} {S : Sto} {Dn : Ends}
theorem PostS.ext {f : F} (h : PostS K mg W ι H f Dn) (e : Ext ι H ι' H') (s : Sr K H' ι' S) : PostS K mg W ι' H' f Dn := by
  cases f with
  | nx e' S' => exact fun ι2 H2 σ' e2 s2 r2 => h ι2 H2 σ' (e.tr s e2) s2 r2
  | rt e' S' => exact fun ι2 H2 σ' e2 s2 r2 => h ι2 H2 σ' (e.tr s e2) s2 r2
  | bk e' S' => exact fun ι2 H2 σ' e2 s2 r2 => h ι2 H2 σ' (e.tr s e2) s2 r2
  | ct e' S' => exact fun ι2 H2 σ' e2 s2 r2 => h ι2 H2 σ' (e.tr s e2) s2 r2
  | ex c fs e' S' => exact fun ι2 H2 σ' dd C gs e2 s2 r2 => h ι2 H2 σ' dd C gs (e.tr s e2) s2 r2
  | bad => exact h
/-- an expression's result, then what is done with it -/
theorem PostS.lift {α β : Type} {Rel : Hp → Em → β → α → Prop} {r : R α} {env : Env} {k : α → Sto → F} (h : PostS K mg W ι H (r.lift env k) Dn) (er : Er K H ι σ env) :
    Post K mg Rel W σ ι H r (fun x H1 => ∃ ι1 a S1, Ext ι H ι1 H1 ∧ Sr K H1 ι1 S1 ∧ Rel H1 ι1 x a ∧ PostS K mg W ι1 H1 (k a S1) Dn) := by
  cases r with
  | ok a S' => exact fun ι2 H2 v e2 s2 r2 => ⟨ι2, a, S', e2, s2, r2, PostS.ext h e2 s2⟩
  | ex c fs S' => exact fun ι2 H2 dd C gs e2 s2 hc hd hn hl => h ι2 H2 σ dd C gs e2 s2 (er.ext e2) hc hd hn hl
  | bad => exact h
theorem PostS.then {f : F} {k : SDen} (h : PostS K mg W ι H (f.then k) Dn) : PostS K mg W ι H f { Dn with nx := rdS K mg W k Dn } := by
  cases f with
  | nx e' S' => exact fun ι2 H2 σ' e2 s2 r2 => ⟨ι2, e', S', s2, r2, PostS.ext h e2 s2⟩
  | rt e' S' => exact h
  | bk e' S' => exact h
  | ct e' S' => exact h
  | ex c fs e' S' => exact h
  | bad => exact h
theorem PostS.nx {env : Env} (h : PostS K mg W ι H (.nx env S) Dn) (s : Sr K H ι S) (r : Er K H ι σ env) : Dn.nx σ H := h ι H σ Ext.refl s r
end
def sSeq (a b : SDen) : SDen := fun env S => (a env S).then b
def sNil : SDen := fun env S => .nx env S
def sSet (i : Nat) (d : Den) : SDen := fun env S => (d env S).lift env fun x S1 => .nx (env.set i (some x)) S1
def sRet (d : Den) : SDen := fun env S => (d env S).lift env fun x S1 => .rt x S1
def sDrop (d : Den) : SDen := fun env S => (d env S).lift env fun _ S1 => .nx env S1
def sIf (t : DenT) (a b : SDen) : SDen := fun env S => (t env S).lift env fun c S1 => if c then a env S1 else b env S1
def sBk : SDen := fun env S => .bk env S
def sCt : SDen := fun env S => .ct env S
section
variable {X : Cx} {W : WX} {e a b : Expr} {d da db : Den} {st : Stmt} {sts sts2 : List Stmt} {ds ds2 : SDen} {t : DenT} {pos : Pos}
abbrev SS (X : Cx) (W : WX) (st : Stmt) (d : SDen) : Prop := PS X st (rdS X.K X.mg W d)
abbrev SSs (X : Cx) (W : WX) (st : List Stmt) (d : SDen) : Prop := PSs X st (rdS X.K X.mg W d)
theorem ss_nil : SSs X W [] sNil := PSs.imp pss_nil fun Dn σ H h => by
  obtain ⟨ι, env, S, s, er, p⟩ := h
  exact p.nx s er
theorem ss_cons (h1 : SS X W st ds) (h2 : SSs X W sts ds2) : SSs X W (st :: sts) (sSeq ds ds2) := PSs.imp (pss_cons h1 h2) fun Dn σ H h => by
  obtain ⟨ι, env, S, s, er, p⟩ := h
  exact ⟨ι, env, S, s, er, p.then⟩
theorem ss_one (h1 : SS X W st ds) : SSs X W [st] ds := pss_one h1
theorem s_pass : SS X W (.Pass pos) sNil := PS.imp ps_pass fun Dn σ H h => by
  obtain ⟨ι, env, S, s, er, p⟩ := h
  exact p.nx s er
theorem s_bk : SS X W (.Break pos) sBk := PS.imp ps_break fun Dn σ H h => by
  obtain ⟨ι, env, S, s, er, p⟩ := h
  exact p ι H σ Ext.refl s er
theorem s_ct : SS X W (.Continue pos) sCt := PS.imp ps_continue fun Dn σ H h => by
  obtain ⟨ι, env, S, s, er, p⟩ := h
  exact p ι H σ Ext.refl s er
theorem s_ret (h : EE X W e d) : SS X W (.Return (some e) pos) (sRet d) := PS.imp (ps_ret h) fun Dn σ H h => by
  obtain ⟨ι, env, S, s, er, p⟩ := h
  refine ⟨ι, env, S, s, er, (PostS.lift (Rel := Rp X.K) p er).mono ?_⟩
  rintro x H1 ⟨ι1, dx, S1, e1, s1, r1, p1⟩
  exact p1 ι1 H1 x Ext.refl s1 r1
theorem s_expr (h : EE X W e d) (hs : swapsWith e none pos.line X.env = pure false := by rfl) : SS X W (.Expr e pos) (sDrop d) := PS.imp (ps_expr h hs) fun Dn σ H h => by
  obtain ⟨ι, env, S, s, er, p⟩ := h
  refine ⟨ι, env, S, s, er, (PostS.lift (Rel := Rp X.K) p er).mono ?_⟩
  rintro x H1 ⟨ι1, dx, S1, e1, s1, r1, p1⟩
  exact p1.nx s1 (er.ext e1)
theorem s_set {i : Nat} {x : Str} {pos' : Pos} (hN : X.N.Nodup) (h : EE X W e d) (hi : X.N[i]? = some x := by rfl) (hx : Loc X.env.scope x := by first | exact Or.inl rfl | exact Or.inr rfl) (hs : swapsWith e (some (.Name x pos')) pos.line X.env = pure false := by rfl)
    (hf : X.fn x = true ∨ X.env.scope.names.lookup x = some .local := by first | exact .inl rfl | exact .inr rfl) : SS X W (.Assign [.Name x pos'] e pos) (sSet i d) := PS.imp (ps_set hN hi hx h hs hf) fun Dn σ H h => by
  obtain ⟨ι, env, S, s, er, p⟩ := h
  refine ⟨ι, env, S, s, er, (PostS.lift (Rel := Rp X.K) p er).mono ?_⟩
  rintro x H1 ⟨ι1, dx, S1, e1, s1, r1, p1⟩
  exact p1.nx s1 ((er.ext e1).set r1)
theorem s_if (hc : TT' X W e t) (ha : SSs X W sts ds) (hb : SSs X W sts2 ds2) : SS X W (.If e sts sts2 pos) (sIf t ds ds2) := PS.imp (ps_if hc ha hb) fun Dn σ H h => by
  obtain ⟨ι, env, S, s, er, p⟩ := h
  refine ⟨ι, env, S, s, er, (PostS.lift (Rel := fun _ _ b c => b = c) p er).mono ?_⟩
  rintro x H1 ⟨ι1, dx, S1, e1, s1, rfl, p1⟩
  cases x with
  | true => rw [if_pos rfl]; exact ⟨ι1, env, S1, s1, er.ext e1, p1⟩
  | false => rw [if_neg Bool.false_ne_true]; exact ⟨ι1, env, S1, s1, er.ext e1, p1⟩
end

/-! ### targets -/
structure Tg where
  run : D → Env → Option Env
  sl : List Nat
def gN (i : Nat) : Tg := ⟨fun x env => some (env.set i (some x)), [i]⟩
def gAll : List Tg → List D → Env → Option Env
  | [], [], env => some env
  | t :: ts, x :: xs, env => (t.run x env).bind fun env => gAll ts xs env
  | _, _, _ => none
def slAll : List Tg → List Nat
  | [] => []
  | t :: ts => t.sl ++ slAll ts
def gT (ts : List Tg) : Tg := ⟨fun x env => match x with
  | .tup xs => gAll ts xs env
  | _ => none, slAll ts⟩
def setsV (σ : L2.St) : List (Nat × V) → L2.St
  | [] => σ
  | (i, v) :: r => setsV (σ.set i (some v)) r
theorem setsV_app (σ : L2.St) : ∀ (a b : List (Nat × V)), setsV σ (a ++ b) = setsV (setsV σ a) b
  | [], _ => rfl
  | (i, v) :: r, b => by rw [List.cons_append]; exact setsV_app _ r b
def rdG (K : PySem.W.Frag) (t : Tg) : TG := fun v σ H Q => ∃ ι env x env', Er K H ι σ env ∧ Rp K H ι v x ∧ t.run x env = some env' ∧ ∀ ws : List (Nat × V), (∀ p ∈ ws, p.1 ∈ t.sl) → Er K H ι (setsV σ ws) env' → Q (setsV σ ws) H
def rdGs (K : PySem.W.Frag) (ts : List Tg) : TGs := fun vs σ H Q => ∃ ι env xs env', Er K H ι σ env ∧ Rps K H ι vs xs ∧ gAll ts xs env = some env' ∧ ∀ ws : List (Nat × V), (∀ p ∈ ws, p.1 ∈ slAll ts) → Er K H ι (setsV σ ws) env' → Q (setsV σ ws) H
section
variable {X : Cx} {pos : Pos}
abbrev GG (X : Cx) (e : Expr) (t : Tg) : Prop := PG X e (rdG X.K t)
abbrev GGs (X : Cx) (e : List Expr) (t : List Tg) : Prop := PGs X e (rdGs X.K t)
theorem PG.imp {e : Expr} {t t' : TG} (h : PG X e t) (f : ∀ v σ H Q, t' v σ H Q → t v σ H Q) : PG X e t' := ⟨fun pins s σ H v u Q I r q => h.run pins s σ H v u Q I r (f v σ H Q q)⟩
theorem PGs.imp {e : List Expr} {t t' : TGs} (h : PGs X e t) (f : ∀ v σ H Q, t' v σ H Q → t v σ H Q) : PGs X e t' := ⟨fun pins s σ H v u Q I r q => h.run pins s σ H v u Q I r (f v σ H Q q)⟩
theorem g_n (i : Nat) {x : Str} (hN : X.N.Nodup) (hi : X.N[i]? = some x := by rfl) (hx : Loc X.env.scope x := by first | exact Or.inl rfl | exact Or.inr rfl) (hf : X.fn x = true ∨ X.env.scope.names.lookup x = some .local := by first | exact .inl rfl | exact .inr rfl) : GG X (.Name x pos) (gN i) :=
  PG.imp (pg_name hN hi hx hf) fun v σ H Q h => by
    obtain ⟨ι, env, x, env', er, r, e, q⟩ := h
    cases e
    exact q [(i, v)] (by simp [gN]) (er.set r)
theorem gs_nil : GGs X [] [] := PGs.imp pgs_nil fun v σ H Q h => by
  obtain ⟨ι, env, xs, env', er, r, e, q⟩ := h
  cases xs with
  | nil => cases r; cases e; exact ⟨rfl, q [] (by simp) er⟩
  | cons x xs => cases e
theorem gs_cons {e : Expr} {es : List Expr} {t : Tg} {ts : List Tg} (h1 : GG X e t) (h2 : GGs X es ts) (hs : (assignEach (e :: es) X.env).map (·.2) = assign e X.env :: (assignEach es X.env).map (·.2) := by rfl) : GGs X (e :: es) (t :: ts) := PGs.imp (pgs_cons h1 h2 hs) fun v σ H Q h => by
  obtain ⟨ι, env, xs, env', er, r, e, q⟩ := h
  cases xs with
  | nil => cases e
  | cons x xs =>
    cases r with
    | cons r rs =>
      cases q1 : t.run x env with
      | none => rw [gAll, q1] at e; cases e
      | some env1 =>
        rw [gAll, q1] at e
        refine ⟨_, _, rfl, ι, env, x, env1, er, r, q1, fun ws hw er' => ⟨ι, env1, xs, env', er', rs, e, fun us hu er2 => ?_⟩⟩
        have e3 := setsV_app σ ws us
        rw [← e3] at er2 ⊢
        exact q (ws ++ us) (fun p hp => by
          rcases List.mem_append.mp hp with hp | hp
          · exact List.mem_append_left _ (hw p hp)
          · exact List.mem_append_right _ (hu p hp)) er2
theorem gAll_len : ∀ {ts : List Tg} {xs : List D} {env env' : Env}, gAll ts xs env = some env' → xs.length = ts.length
  | [], [], _, _, _ => rfl
  | t :: ts, x :: xs, env, env', e => by
    cases q1 : t.run x env with
    | none => rw [gAll, q1] at e; cases e
    | some env1 => rw [gAll, q1] at e; simp [gAll_len (ts := ts) (xs := xs) e]
  | [], x :: xs, _, _, e => by cases e
  | t :: ts, [], _, _, e => by cases e
theorem g_t {es : List Expr} {k : Nat} {ts : List Tg} (hc : X.calm = true) (h : GGs X es ts) (hn : (assignEach es X.env).length = ts.length := by rfl) (hst : (assignEach es X.env).findIdx? (·.1) = none := by rfl) : GG X (.Tuple es k pos) (gT ts) :=
  PG.imp (pg_tup (n := ts.length) hc h hn hst) fun v σ H Q h => by
    obtain ⟨ι, env, x, env', er, r, e, q⟩ := h
    cases x with
    | tup xs =>
      obtain ⟨a, vs, rfl, hs, rs⟩ := r.tup_inv
      exact ⟨a, vs, rfl, hs, by rw [rs.length]; exact gAll_len e, ι, env, xs, env', er, rs, e, q⟩
    | _ => cases e
end
/-- target = e -/
def sAsg (t : Tg) (d : Den) : SDen := fun env S => (d env S).lift env fun x S1 => match t.run x env with
  | some env' => .nx env' S1
  | none => .bad
/-- xs[i] = e of a list that is a cell -/
def sPut (o i d : Den) : SDen := fun env S => (d env S).lift env fun x S1 => (o env S1).lift env fun l S2 => (i env S2).lift env fun j S3 => match l, j with
  | .ref n, .int k => match S3[n]? with
    | some (.lst xs) => match ixN xs.length k with
      | some j => .nx env (S3.set n (.lst (xs.set j x)))
      | none => .bad
    | none => .bad
  | _, _ => .bad
section
variable {X : Cx} {W : WX} {tg e o i : Expr} {d dd di : Den} {t : Tg} {pos : Pos}
theorem s_asg (h : EE X W e d) (hg : GG X tg t) (hs : swapsWithSole [tg] e pos.line X.env = pure false := by rfl) (hw : swappedStores [tg] e X.env = pure none := by rfl) (h1 : (assignEach [tg] X.env).map (·.2) = [assign tg X.env] := by rfl) : SS X W (.Assign [tg] e pos) (sAsg t d) := PS.imp (ps_asg h hg hs hw h1) fun Dn σ H h => by
  obtain ⟨ι, env, S, s, er, p⟩ := h
  refine ⟨ι, env, S, s, er, (PostS.lift (Rel := Rp X.K) p er).mono ?_⟩
  rintro x H1 ⟨ι1, dx, S1, e1, s1, r1, p1⟩
  split at p1
  · rename_i env' e2
    exact ⟨ι1, env, dx, env', er.ext e1, r1, e2, fun ws _ er' => p1.nx s1 er'⟩
  · exact p1.elim
theorem s_put {tpos : Pos} (hg : PG X (.Subscript o i tpos) (gSub (rd X.K X.mg W dd) (rd X.K X.mg W di) rSetL)) (h : EE X W e d) (h1 : (assignEach [.Subscript o i tpos] X.env).map (·.2) = [assign (.Subscript o i tpos) X.env])
    (hs : swapsWithSole [.Subscript o i tpos] e pos.line X.env = pure false := by rfl) (hw : swappedStores [.Subscript o i tpos] e X.env = pure none := by rfl) :
    SS X W (.Assign [.Subscript o i tpos] e pos) (sPut dd di d) := PS.imp (ps_asg h hg hs hw h1) fun Dn σ H h => by
  obtain ⟨ι, env, S, s, er, p⟩ := h
  refine ⟨ι, env, S, s, er, (PostS.lift (Rel := Rp X.K) p er).mono ?_⟩
  rintro x H1 ⟨ι1, dx, S1, e1, s1, r1, p1⟩
  have er1 := er.ext e1
  refine ⟨ι1, env, S1, s1, er1, (PostS.lift (Rel := Rp X.K) p1 er1).mono ?_⟩
  rintro l H2 ⟨ι2, dl, S2, e2, s2, r2, p2⟩
  have er2 := er1.ext e2
  refine ⟨ι2, env, S2, s2, er2, (PostS.lift (Rel := Rp X.K) p2 er2).mono ?_⟩
  rintro j H3 ⟨ι3, dj, S3, e3, s3, r3, p3⟩
  have er3 := er2.ext e3
  split at p3
  · rename_i n k
    cases r3
    obtain ⟨a, rfl, ea⟩ := (r2.ext e3).ref_inv
    split at p3
    · rename_i xs e4
      split at p3
      · rename_i m e5
        obtain ⟨vs, h1, h2⟩ := s3.list ea e4
        refine ⟨a, vs, k, m, rfl, rfl, h1, by rw [h2.length]; exact e5, ?_⟩
        have hp : Ext ι3 H3 ι3 (upd H3 a (.lst (vs.set m x))) := Ext.put ea
        exact p3 ι3 _ σ hp (s3.put ea (h2.set m ((r1.ext e2).ext e3))) (er3.ext hp)
      · exact p3.elim
    · exact p3.elim
  · exact p3.elim
end

/-! ### what is walked -/
structure ItOk (K : PySem.W.Frag) (J : It) (xs : List D) (g : Sto → Prop) (ι : Em) (H : Hp) : Prop where
  go : ∀ (ι2 : Em) (H2 : Hp) (S2 : Sto) (i : Nat) (x : D), Ext ι H ι2 H2 → Sr K H2 ι2 S2 → g S2 → xs[i]? = some x → J.go i H2 ∧ ∀ v H3, J.yld i H2 v H3 → Ext ι2 H2 ι2 H3 ∧ Sr K H3 ι2 S2 ∧ Rp K H3 ι2 v x
  stop : ∀ (ι2 : Em) (H2 : Hp) (S2 : Sto), Ext ι H ι2 H2 → Sr K H2 ι2 S2 → g S2 → J.stop xs.length H2
abbrev DenI := Env → Sto → R (List D × (Sto → Prop))
def rdI (K : PySem.W.Frag) (mg : Str → Option Value) (W : WX) (d : DenI) : TI := fun σ H Q => ∃ ι env S, Sr K H ι S ∧ Er K H ι σ env ∧ Post K mg (fun H1 ι1 J a => ItOk K J a.1 a.2 ι1 H1) W σ ι H (d env S) Q
section
variable {X : Cx} {W : WX} {tg l e : Expr} {tl d : Den} {pos p : Pos}
abbrev II (X : Cx) (W : WX) (tg e : Expr) (d : DenI) : Prop := PI X tg e (rdI X.K X.mg W d)
theorem PI.imp {t t' : TI} (h : PI X tg e t) (f : ∀ σ H R, t' σ H R → t σ H R) : PI X tg e t' := ⟨fun pins s σ H R I q => h.run pins s σ H R I (f σ H R q)⟩
/-- what is read of a list or tuple while it stands -/
def still (x : D) (xs : List D) (S : Sto) : Prop := match x with
  | .ref n => S[n]? = some (.lst xs)
  | _ => True
theorem still_tup {ys xs : List D} {S : Sto} : still (.tup ys) xs S = True := rfl
theorem still_lst {ys xs : List D} {S : Sto} : still (.lst ys) xs S = True := rfl
theorem still_frz {ys xs : List D} {S : Sto} : still (.frz ys) xs S = True := rfl
theorem still_ref {n : Nat} {xs : List D} {S : Sto} : still (.ref n) xs S = (S[n]? = some (.lst xs)) := rfl
def asSeq (x : D) (S : Sto) : R (List D × (Sto → Prop)) := match seqOf S x with
  | some xs => .ok (xs, still x xs) S
  | none => .bad
def iSeq (d : Den) : DenI := fun env S => (d env S).bind asSeq
/-- the walked list or tuple of a value, later on -/
theorem still_inv {K : PySem.W.Frag} {ι : Em} {H : Hp} {S S1 : Sto} {v : V} {x : D} {xs : List D} (s : Sr K H ι S) (r : Rp K H ι v x) (e0 : seqOf S1 x = some xs) (g : still x xs S) : ∃ a vs, v = .ref a ∧ (SqL K H a vs ∨ SqT K H a vs) ∧ Rps K H ι vs xs := by
  refine seq_inv s r ?_
  cases x with
  | ref n => simp only [still] at g; simp only [seqOf, g]
  | _ => exact e0
/-- lists stay lists, tuples tuples -/
def isT : D → Bool
  | .tup _ => true
  | _ => false
theorem still_L {K : PySem.W.Frag} {ι : Em} {H : Hp} {S S1 : Sto} {v : V} {x : D} {xs : List D} (s : Sr K H ι S) (r : Rp K H ι v x) (e0 : seqOf S1 x = some xs) (g : still x xs S) (h : isT x = false) : ∃ a vs, v = .ref a ∧ SqL K H a vs ∧ Rps K H ι vs xs := by
  refine lst_inv s r ?_
  cases x with
  | ref n => simp only [still] at g; simp only [lstOf, g]
  | tup ys => cases h
  | _ => exact e0
theorem walk_ok {K : PySem.W.Frag} {J : It} {n : Nat} {G : Hp → Prop} {Y : Nat → Hp → V → Hp → Prop} {xs : List D} {g : Sto → Prop} {ι : Em} {H : Hp} (w : Walk J n G Y) (hn : n = xs.length)
    (hG : ∀ ι2 H2 S2, Ext ι H ι2 H2 → Sr K H2 ι2 S2 → g S2 → G H2)
    (hY : ∀ ι2 H2 S2 i x v H3, Ext ι H ι2 H2 → Sr K H2 ι2 S2 → g S2 → xs[i]? = some x → Y i H2 v H3 → Ext ι2 H2 ι2 H3 ∧ Sr K H3 ι2 S2 ∧ Rp K H3 ι2 v x) : ItOk K J xs g ι H := by
  subst hn
  refine ⟨fun ι2 H2 S2 i x e s hg hx => ?_, fun ι2 H2 S2 e s hg => w.stops H2 (hG ι2 H2 S2 e s hg)⟩
  have hi : i < xs.length := (List.getElem?_eq_some_iff.mp hx).1
  have q := hG ι2 H2 S2 e s hg
  exact ⟨w.goes i H2 hi q, fun v H3 y => hY ι2 H2 S2 i x v H3 e s hg hx (w.yields i H2 v H3 hi q y)⟩
/-- the list or tuple that e gives -/
def iEach (K : PySem.W.Frag) (tl : TE) : TI := fun σ H R => tl σ H fun x H1 => ∃ a, x = .ref a ∧ (((∃ xs, SqL K H1 a xs) ∧ R (Itl K a) H1) ∨ ((∃ xs, SqT K H1 a xs) ∧ R (Itt K a) H1))
theorem pi_each {tl : TE} (hl : PE X l tl) : PI X tg l (iEach X.K tl) := by
  refine ⟨fun pins s σ H R I h => thn (hl.run pins s σ H _ I h) fun v s1 ⟨x, H1, I1, r1, q1⟩ => ?_⟩
  obtain ⟨a, rfl, q⟩ := q1
  cases r1
  have fresh : ∀ b ∈ [s1.heap.objs.size], FpOk X pins H1 b := fun b hb => by
    cases List.mem_singleton.mp hb
    exact I1.fpOk (Nat.le_refl _) (I1.hok.fresh (Nat.le_refl _))
  rcases q with ⟨⟨xs, hq⟩, q⟩ | ⟨⟨xs, hq⟩, q⟩
  · obtain ⟨its, rv, p, hz⟩ := I1.list hq
    exact wpAny_pyIter_list p.isList
      ⟨s1.heap.objs.size, [s1.heap.objs.size], _, _, H1, rfl, I1.kept (t' := s1.toks) (fun b o e => Heap.get?_push_of_some _ e), turn_list a _, ⟨_, Heap.get?_push_size _ rfl, rfl, rfl⟩, fresh, q⟩
  · obtain ⟨its, rv, p, hz⟩ := I1.tuple hq
    exact wpAny_pyIter_tuple (show s1.heap.IsTuple a its.toArray from p)
      ⟨s1.heap.objs.size, [s1.heap.objs.size], _, _, H1, rfl, I1.kept (t' := s1.toks) (fun b o e => Heap.get?_push_of_some _ e), turn_tuple a _, ⟨_, Heap.get?_push_size _ rfl, rfl, rfl⟩, fresh, q⟩
theorem i_seq (hl : EE X W l tl) : II X W tg l (iSeq tl) := PI.imp (pi_each hl) fun σ H R h => by
  obtain ⟨ι, env, S, s, er, p⟩ := h
  refine ⟨ι, env, S, s, er, (Post.bind (Rel' := Rp X.K) p).mono ?_⟩
  rintro x H1 ⟨ι1, dx, S1, e1, s1, r1, p1⟩
  unfold asSeq at p1
  split at p1
  · rename_i xs e0
    cases ht : isT dx with
    | false =>
      have g0 : still dx xs S1 := by
        cases dx with
        | ref n =>
          simp only [seqOf] at e0
          split at e0
          · rename_i ys e5; cases e0; exact e5
          · cases e0
        | _ => trivial
      obtain ⟨a, vs, rfl, hs, rs⟩ := still_L s1 r1 e0 g0 ht
      have hw : ∀ ι2 H2 S2, Ext ι1 H1 ι2 H2 → Sr X.K H2 ι2 S2 → still dx xs S2 → ∃ ws, SqL X.K H2 a ws ∧ Rps X.K H2 ι2 ws xs := fun ι2 H2 S2 e2 s2 g2 => by
        obtain ⟨b, ws, e3, h3, r3⟩ := still_L s2 (r1.ext e2) e0 g2 ht
        cases e3; exact ⟨ws, h3, r3⟩
      refine ⟨a, rfl, .inl ⟨⟨vs, hs⟩, p1 ι1 H1 _ Ext.refl s1 ⟨fun ι2 H2 S2 i y e2 s2 g2 hy => ?_, fun ι2 H2 S2 e2 s2 g2 => ?_⟩⟩⟩
      · obtain ⟨ws, h3, r3⟩ := hw ι2 H2 S2 e2 s2 g2
        obtain ⟨v, hv, rv⟩ := r3.get hy
        refine ⟨⟨ws, v, h3, hv⟩, fun u H3 yy => ?_⟩
        obtain ⟨rfl, hu⟩ := yy
        have := hu ws h3
        rw [hv] at this; cases this
        exact ⟨Ext.refl, s2, rv⟩
      · obtain ⟨ws, h3, r3⟩ := hw ι2 H2 S2 e2 s2 g2
        exact ⟨ws, h3, by rw [r3.length]; exact Nat.le_refl _⟩
    | true =>
      cases dx with
      | tup ys =>
        cases e0
        obtain ⟨a, vs, rfl, hs, rs⟩ := r1.tup_inv
        have hw : ∀ ι2 H2 S2, Ext ι1 H1 ι2 H2 → Sr X.K H2 ι2 S2 → ∃ ws, SqT X.K H2 a ws ∧ Rps X.K H2 ι2 ws xs := fun ι2 H2 S2 e2 s2 => by
          obtain ⟨b, ws, e3, h3, r3⟩ := (r1.ext e2).tup_inv
          cases e3; exact ⟨ws, h3, r3⟩
        refine ⟨a, rfl, .inr ⟨⟨vs, hs⟩, p1 ι1 H1 _ Ext.refl s1 ⟨fun ι2 H2 S2 i y e2 s2 g2 hy => ?_, fun ι2 H2 S2 e2 s2 g2 => ?_⟩⟩⟩
        · obtain ⟨ws, h3, r3⟩ := hw ι2 H2 S2 e2 s2
          obtain ⟨v, hv, rv⟩ := r3.get hy
          refine ⟨⟨ws, v, h3, hv⟩, fun u H3 yy => ?_⟩
          obtain ⟨rfl, hu⟩ := yy
          have := hu ws h3
          rw [hv] at this; cases this
          exact ⟨Ext.refl, s2, rv⟩
        · obtain ⟨ws, h3, r3⟩ := hw ι2 H2 S2 e2 s2
          exact ⟨ws, h3, by rw [r3.length]; exact Nat.le_refl _⟩
      | _ => cases ht
  · exact p1.elim
/-- range(n), range(m, n) -/
def rngD (lo : Int) (n : Nat) : List D := (List.range n).map fun (i : Nat) => .int (lo + (i : Int))
def big : Int := 4611686018427387904
def Rok (i : Int) : Prop := -big ≤ i ∧ i < big
noncomputable instance (i : Int) : Decidable (Rok i) := Classical.propDecidable _
def fRng1 (xs : List D) (S : Sto) : R (List D × (Sto → Prop)) := match xs with
  | [.int j] => if Rok j then .ok (rngD 0 j.toNat, fun _ => True) S else .bad
  | _ => .bad
def fRng2 (xs : List D) (S : Sto) : R (List D × (Sto → Prop)) := match xs with
  | [.int i, .int j] => if Rok i ∧ Rok j then .ok (rngD i (j - i).toNat, fun _ => True) S else .bad
  | _ => .bad
def iRng1 (d : DenA) : DenI := fun env S => (d env S).bind fRng1
def iRng2 (d : DenA) : DenI := fun env S => (d env S).bind fRng2
theorem rng_ok {K : PySem.W.Frag} {lo : Int} {n : Nat} {ι : Em} {H : Hp} : ItOk K (Itr lo n) (rngD lo n) (fun _ => True) ι H := by
  refine ⟨fun ι2 H2 S2 i x e2 s2 _ hx => ?_, fun ι2 H2 S2 _ _ _ => by show n ≤ _; simp [rngD]⟩
  have hi : i < n := by
    have := (List.getElem?_eq_some_iff.mp hx).1
    simpa [rngD] using this
  refine ⟨hi, fun v H3 y => ?_⟩
  obtain ⟨rfl, rfl⟩ := y
  refine ⟨Ext.refl, s2, ?_⟩
  unfold rngD at hx
  rw [List.getElem?_map, List.getElem?_range hi] at hx
  cases hx
  exact .int _
theorem big_eq : big = 2 ^ 62 := by decide
theorem rd_rng1 {K : PySem.W.Frag} {mg : Str → Option Value} {da : DenA} {σ : L2.St} {H : Hp} {R : It → Hp → Prop} (h : rdI K mg W (iRng1 da) σ H R) : L2.iRng1 (rdA K mg W da) σ H R := by
  obtain ⟨ι, env, S, s, er, q⟩ := h
  refine ⟨ι, env, S, s, er, (Post.bind (Rel' := Rps K) q).mono ?_⟩
  rintro x H1 ⟨ι1, dx, S1, e1, s1, r1, p1⟩
  unfold fRng1 at p1
  split at p1
  · rename_i j
    obtain ⟨v, rfl, r⟩ := rps1 r1
    cases r
    split at p1
    · rename_i hj
      unfold Rok at hj
      rw [big_eq] at hj
      exact ⟨j, rfl, hj.1, hj.2, p1 ι1 H1 _ Ext.refl s1 rng_ok⟩
    · exact p1.elim
  · exact p1.elim
theorem i_rng1 {a : Expr} {da : DenA} (hg : Gl X "range") (hm : X.mg "range" = none) (ha : AA X W [a] da) (hs : starEach [a] X.env = [(false, eval a X.env)] := by rfl) : II X W tg (.Call (.Name "range" p) [a] [] pos) (iRng1 da) := PI.imp (pi_range1 hg hm ha hs) fun _ _ _ h => rd_rng1 h
theorem i_rng2 {a b : Expr} {da : DenA} (hg : Gl X "range") (hm : X.mg "range" = none) (ha : AA X W [a, b] da) (hs : starEach [a, b] X.env = [(false, eval a X.env), (false, eval b X.env)] := by rfl) (hs2 : starEach [b] X.env = [(false, eval b X.env)] := by rfl) :
    II X W tg (.Call (.Name "range" p) [a, b] [] pos) (iRng2 da) := PI.imp (pi_range2 hg hm ha hs hs2) fun σ H R h => by
  obtain ⟨ι, env, S, s, er, q⟩ := h
  refine ⟨ι, env, S, s, er, (Post.bind (Rel' := Rps X.K) q).mono ?_⟩
  rintro x H1 ⟨ι1, dx, S1, e1, s1, r1, p1⟩
  unfold fRng2 at p1
  split at p1
  · rename_i i j
    obtain ⟨v, w, rfl, r, r2⟩ := rps2 r1
    cases r; cases r2
    split at p1
    · rename_i hj
      unfold Rok at hj
      rw [big_eq] at hj
      exact ⟨i, j, rfl, ⟨hj.1.1, hj.1.2, hj.2.1, hj.2.2⟩, p1 ι1 H1 _ Ext.refl s1 rng_ok⟩
    · exact p1.elim
  · exact p1.elim

/-! ### for, while -/
open Classical in
noncomputable def forGo (g : Sto → Prop) (t : Tg) (body : SDen) : List D → Env → Sto → F
  | [], env, S => if g S then .nx env S else .bad
  | x :: xs, env, S => if g S then match t.run x env with
    | some env' => match body env' S with
      | .nx e S' => forGo g t body xs e S'
      | .ct e S' => forGo g t body xs e S'
      | .bk e S' => .nx e S'
      | f => f
    | none => .bad
    else .bad
noncomputable def sFor (src : DenI) (t : Tg) (body : SDen) : SDen := fun env S => (src env S).lift env fun a S1 => forGo a.2 t body a.1 env S1
def whileGo (c : DenT) (body : SDen) : Nat → Env → Sto → F
  | 0, _, _ => .bad
  | n + 1, env, S => (c env S).lift env fun b S1 => if b then (match body env S1 with
      | .nx e S' => whileGo c body n e S'
      | .ct e S' => whileGo c body n e S'
      | .bk e S' => .nx e S'
      | f => f) else .nx env S1
def sWhile (n : Nat) (c : DenT) (body : SDen) : SDen := whileGo c body n
theorem Post.le {K : PySem.W.Frag} {mg : Str → Option Value} {α β : Type} {Rel : Hp → Em → β → α → Prop} {σ : L2.St} {ι : Em} {H : Hp} {r : R α} {Q : β → Hp → Prop} (h : Post K mg Rel W σ ι H r Q) {S : Sto} {ι0 : Em} {H0 : Hp} (e : Ext ι0 H0 ι H) (s : Sr K H ι S) :
    Post K mg Rel W σ ι H r (fun v H' => Q v H') := h
theorem rd_for {K : PySem.W.Frag} {mg : Str → Option Value} {src : DenI} {t : Tg} {db : SDen} {Dn : Ends} {σ : L2.St} {H : Hp} (h : rdS K mg W (sFor src t db) Dn σ H) : tFor (rdI K mg W src) (rdG K t) (rdS K mg W db) Dn σ H := by
  obtain ⟨ι, env, S, s, er, p⟩ := h
  refine ⟨ι, env, S, s, er, (PostS.lift (Rel := fun H1 ι1 J a => ItOk K J a.1 a.2 ι1 H1) p er).mono ?_⟩
  rintro J H1 ⟨ι1, ⟨xs, g⟩, S1, e1, s1, r1, p1⟩
  have er1 := er.ext e1
  clear p er e1 s
  simp only at r1 p1
  refine ⟨fun i m σ H => m = xs.length - i ∧ i ≤ xs.length ∧ ∃ ι2 env S2, Ext ι1 H1 ι2 H ∧ Sr K H ι2 S2 ∧ Er K H ι2 σ env ∧ PostS K mg W ι2 H (forGo g t db (xs.drop i) env S2) Dn,
    ⟨xs.length, rfl, Nat.zero_le _, ι1, env, S1, Ext.refl, s1, er1, by simpa using p1⟩, ?_⟩
  rintro i m σ H2 ⟨rfl, hi, ι2, env2, S2, e2, s2, er2, p2⟩
  by_cases hlt : i < xs.length
  · rw [List.drop_eq_getElem_cons hlt] at p2
    simp only [forGo] at p2
    split at p2
    · rename_i hg2
      obtain ⟨go, gy⟩ := r1.go ι2 H2 S2 i _ e2 s2 hg2 (List.getElem?_eq_getElem hlt)
      refine .inr ⟨go, fun σ' H' => ∃ ι3 env3 S3, Ext ι1 H1 ι3 H' ∧ Sr K H' ι3 S3 ∧ Er K H' ι3 σ' env3 ∧ PostS K mg W ι3 H' (forGo g t db (xs.drop (i + 1)) env3 S3) Dn, ?_, ?_⟩
      · rintro σ' H' ⟨ι3, env3, S3, q⟩
        exact ⟨xs.length - (i + 1), by omega, rfl, hlt, ι3, env3, S3, q⟩
      · intro v H3 y
        obtain ⟨e3, s3, r3⟩ := gy v H3 y
        split at p2
        · rename_i env' e5
          refine ⟨ι2, env2, _, env', er2.ext e3, r3, e5, fun ws _ er' => ?_⟩
          refine ⟨ι2, env', S2, s3, er', ?_⟩
          split at p2
          · rename_i e6 S6 eb
            rw [eb]
            exact fun ι4 H4 σ4 e4 s4 er4 => ⟨ι4, _, _, (e2.tr s2 e3).tr s3 e4, s4, er4, p2.ext (e3.tr s3 e4) s4⟩
          · rename_i e6 S6 eb
            rw [eb]
            exact fun ι4 H4 σ4 e4 s4 er4 => ⟨ι4, _, _, (e2.tr s2 e3).tr s3 e4, s4, er4, p2.ext (e3.tr s3 e4) s4⟩
          · rename_i e6 S6 eb
            rw [eb]
            exact fun ι4 H4 σ4 e4 s4 er4 => p2 ι4 H4 σ4 (e3.tr s3 e4) s4 er4
          · rename_i f h1 h2 h3
            have p3 := p2.ext e3 s3
            cases q : db env' S2 with
            | nx a b => exact absurd q (h1 a b)
            | ct a b => exact absurd q (h2 a b)
            | bk a b => exact absurd q (h3 a b)
            | rt a b => rw [q] at p3; exact p3
            | ex a b c d => rw [q] at p3; exact p3
            | bad => rw [q] at p3; exact p3
        · exact p2.elim
    · exact p2.elim
  · have hi' : i = xs.length := by omega
    subst hi'
    rw [List.drop_length] at p2
    simp only [forGo] at p2
    split at p2
    · rename_i hg2
      exact .inl ⟨r1.stop ι2 H2 S2 e2 s2 hg2, p2.nx s2 er2⟩
    · exact p2.elim
theorem s_for {iter : Expr} {body : List Stmt} {src : DenI} {t : Tg} {db : SDen} (hc : X.calm = true) (hi : II X W tg iter src) (hg : GG X tg t) (hb : SSs X W body db) (hp : PassesOwn (model X.prog X.w) X.A X.env X.xe) (hs : ∀ x, foldedSetIterable iter X.env x = pure x := by intro _; rfl) :
    SS X W (.For tg iter body [] pos) (sFor src t db) := PS.imp (ps_for hp hc hi hg hb hs) fun _ _ _ h => rd_for h
theorem s_while {c : Expr} {body : List Stmt} {tc : DenT} {db : SDen} (n : Nat) (hc : TT' X W c tc) (hb : SSs X W body db) (hp : PassesOwn (model X.prog X.w) X.A X.env X.xe) : SS X W (.While c body [] pos) (sWhile n tc db) := PS.imp (ps_while hp hc hb) fun Dn σ H h => by
  obtain ⟨ι, env, S, s, er, p⟩ := h
  refine ⟨fun m σ H => ∃ ι env S, Sr X.K H ι S ∧ Er X.K H ι σ env ∧ PostS X.K X.mg W ι H (whileGo tc db m env S) Dn, ⟨n, ι, env, S, s, er, p⟩, ?_⟩
  rintro m σ1 H1 ⟨ι1, env1, S1, s1, er1, p1⟩
  cases m with
  | zero => exact p1.elim
  | succ m =>
    refine ⟨ι1, env1, S1, s1, er1, (PostS.lift (Rel := fun _ _ b c => b = c) p1 er1).mono ?_⟩
    rintro b H2 ⟨ι2, _, S2, e2, s2, rfl, p2⟩
    cases b with
    | false => rw [if_neg Bool.false_ne_true]; exact p2.nx s2 (er1.ext e2)
    | true =>
      rw [if_pos rfl]
      simp only [if_true] at p2
      refine ⟨fun σ' H' => ∃ ι env S, Sr X.K H' ι S ∧ Er X.K H' ι σ' env ∧ PostS X.K X.mg W ι H' (whileGo tc db m env S) Dn, fun σ' H' q => ⟨m, Nat.lt_succ_self _, q⟩, ι2, env1, S2, s2, er1.ext e2, ?_⟩
      split at p2
      · rename_i e6 S6 eb
        rw [eb]
        exact fun ι4 H4 σ4 e4 s4 er4 => ⟨ι4, _, _, s4, er4, p2.ext e4 s4⟩
      · rename_i e6 S6 eb
        rw [eb]
        exact fun ι4 H4 σ4 e4 s4 er4 => ⟨ι4, _, _, s4, er4, p2.ext e4 s4⟩
      · rename_i e6 S6 eb
        rw [eb]
        exact fun ι4 H4 σ4 e4 s4 er4 => p2 ι4 H4 σ4 e4 s4 er4
      · rename_i f h1 h2 h3
        cases q : db env1 S2 with
        | nx a b => exact absurd q (h1 a b)
        | ct a b => exact absurd q (h2 a b)
        | bk a b => exact absurd q (h3 a b)
        | rt a b => rw [q] at p2; exact p2
        | ex a b c d => rw [q] at p2; exact p2
        | bad => rw [q] at p2; exact p2
end
end
end Z
end

section
set_option Elab.async false
set_option linter.all false
set_option maxRecDepth 100000
set_option maxHeartbeats 2000000
/-! an error of one's own made by its __init__, with what is known of its context (for suites that call defs) -/
namespace Z
open PySem PySem.Spec PyProof.Rows L2
section
variable {X : Cx} {e : Expr} {es : List Expr} {ta : TA} {pos p : Pos}
/-- the two objects that a new error of the class C lays down behind the heap g, its arguments us -/
def twoH (g : Heap) (C : Addr) (us : List Value) : Heap := (g.push (PySem.W.kdv_tup us)).push (PySem.HandSPX.excO C g.objs.size)
theorem twoH_keep {g : Heap} {C : Addr} {us : List Value} : ∀ b o, g.get? b = some o → (twoH g C us).get? b = some o := fun _ _ q => Heap.get?_push_of_some _ (Heap.get?_push_of_some _ q)
theorem twoH_get {g : Heap} {C : Addr} {us : List Value} : (twoH g C us).get? (g.objs.size + 1) = some (PySem.HandSPX.excO C g.objs.size) := by unfold twoH; heap_get
theorem pmkN_oex {G : CXT} {x : Str} {C fI : Addr} {k : Nat} {fd : FuncData} {ps : List Str} {sp : Sp} (T : OexC X.K C) (iC : PySem.W.findIn X.K (.ref C) "__init__" = some (some (.ref fI))) (tI : PySem.W.typeIn X.K (.ref fI) = some (.type "function"))
    (F1 : FnOk X.prog X.w X.K X.mg X.base G k fI fd ps sp) (hr : Room (k + 1) X.A) (hb : Binds X.K fd ps []) (hx : Passes G X (fun _ _ _ => False)) (hg : Gl X x) (hm : X.mg x = some (.ref C)) (ha : PA X (e :: es) ta)
    (hdb : (x == ("__debug__" : Str)) = false := by decide) (he : starEach (e :: es) X.env = (false, eval e X.env) :: starEach es X.env := by rfl) (hpl : (backTo pos (starEach es X.env)).any (·.1) = false := by rfl) :
    L2N.PMk X (.Call (.Name x p) (e :: es) [] pos) (tMkO C sp [] ta) := fun pins s σ H Q I h => by
  obtain ⟨_, _, _, _, bm, _, _, _, _, _, _, _, _, _, _, cC, cB⟩ := T.cls
  have run : ∀ (us : List Value) (s1 : Shared) (vs : List V) (H1 : Hp), Inv X pins σ H1 s1 → Vals vs us → (vs.length ≤ 1000 ∧ ∀ q, H1 q = none → sp (V.ref q :: (vs ++ [])) (upd H1 q (exo q C none)) (fun v H2 => v = .non ∧ ∃ d fs, H2 q = some (exo q C (some d)) ∧ H2 d = some (exd d fs) ∧ H1 d = none ∧ Q (.ref C) (some d) (upd (del H2 q) d (.xd fs))) (fun _ _ _ => False)) →
      wpAny (model X.prog X.w) X.A (call (.ref C) us) (L2N.MkP X pins σ Q) X.xe s1 := by
    rintro us s1 vs H1 I1 rv ⟨lv, g⟩
    obtain ⟨hp, gs, dr, tk, os⟩ := s1
    have old : hp.objs.size ≤ hp.objs.size + 1 := Nat.le_succ _
    have new := I1.hok.fresh old
    have g2 := g _ new
    have J : Inv X pins σ (upd H1 (hp.objs.size + 1) (exo (hp.objs.size + 1) C none)) ⟨twoH hp C us, gs, dr, tk, os⟩ := I1.laid (t' := tk) twoH_keep old (exo_ok twoH_get)
    rw [List.append_nil] at g2
    have rv2 : Vals (V.ref (hp.objs.size + 1) :: vs) (Value.ref (hp.objs.size + 1) :: us) := .cons rfl rv
    have ln : (Value.ref (hp.objs.size + 1) :: us).length = ps.length := by rw [← rv2.length, F1.len _ _ _ _ g2]
    have few : us.length ≤ sizeLine := by rw [← Paired.length rv]; exact Nat.le_trans lv (by decide)
    have bd := hb _ (Value.ref (hp.objs.size + 1) :: us) J.kIn (by rw [List.append_nil]; exact ln)
    rw [List.append_nil] at bd
    have call := F1.run _ X.stack _ _ ⟨Value.ref (hp.objs.size + 1) :: us, []⟩ (Value.ref (hp.objs.size + 1) :: us) _ _ (fun _ _ _ => False) (hr.make C us []) (J.env0.make C us []) bd rv2 g2
    refine wpAny_call (PySem.HandSPX.call_own F.excBase_ValueError (fun Y => PySem.HandSPX.refsVE_contains Y bm cB) (I1.kIn _ _ cC) (PySem.W.looks_findIn I1.kIn iC) (fun self => PySem.W.bind_fn I1.kIn self tI) few (codeAny_mono call fun r s' q => ?_))
    match r, q with
    | .error er, q => exact hx pins σ _ _ er s' J q
    | .ok .next, q => exact False.elim q
    | .ok .brk, q => exact False.elim q
    | .ok .cont, q => exact False.elim q
    | .ok (.ret u), ⟨v, H2, o2, br, un, ok2, rr, ev, d, fs, ea, ed, nd, q2⟩ =>
      subst ev
      obtain ⟨h2, g2', d2, t2, os'⟩ := s'
      obtain ⟨t0, G0, J0, k0, f0, n0, na⟩ := mk_end0 (d2 := d2) (t2 := t2) I1 old twoH_keep un ok2 o2 br ea ed nd
      exact ⟨rr, hp.objs.size + 1, _, _, ⟨G0, g2', d2, t2, os'⟩, _, .ref C, some d, rfl, J0, k0, f0, n0, ⟨rfl, rfl, fun _ z => by cases z; rfl⟩, rfl, rfl, na, rfl, br, raises_own T.exC T.tyC, q2⟩
  refine wpAny_Call_Name_kw (ld_glob I hg hm ?_ hdb)
  exact PySem.W.callWith_K (h₀ := X.base) I.ok.mod.kin T.kC (thn (ha.run pos pins s σ H _ I h) fun us s1 ⟨vs, H1, I1, r1, q1⟩ => ⟨I1.kIn, run us s1 vs H1 I1 r1 q1⟩) he hpl
end
end Z
end

section
set_option Elab.async false
set_option linter.all false
set_option maxRecDepth 100000
set_option maxHeartbeats 1000000
/-! promises of defs that may rely on it that nothing is being shown (no repr runs above them) -/
namespace Z
open PySem PySem.Spec PyProof.Rows L2
/-- room, and no repr above -/
structure RoomZ (k : Nat) (A : Around) : Prop where
  r : Room k A
  gd : A.guards = some []
theorem RoomZ.mono {j k : Nat} {A : Around} (h : RoomZ k A) (hj : j ≤ k) : RoomZ j A := ⟨h.r.mono hj, h.gd⟩
theorem RoomZ.deeper {k : Nat} {A : Around} (h : RoomZ (k + 1) A) (env : PySem.Env) : RoomZ k (A.deeper env) := ⟨h.r.deeper env, h.gd⟩
theorem RoomZ.in1 {k : Nat} {A : Around} (h : RoomZ (k + 1) A) : RoomZ k A.in1 := ⟨h.r.in1, h.gd⟩
theorem RoomZ.units {k : Nat} {A : Around} (h : RoomZ k A) : A.units + 64 < cLine := h.r.units
theorem RoomZ.depth {k : Nat} {A : Around} (h : RoomZ k A) : A.depth < recursionLimit := h.r.depth
theorem roomZ_caller {k : Nat} (h : Room k callerA) : RoomZ k callerA := ⟨h, rfl⟩

structure FnG (P : Program) (w : World) (K : PySem.W.Frag) (mg : Str → Option Value) (base : Heap) (CX : CXT) (k : Nat) (f : Addr) (fd : FuncData) (ps : List Str) (sp : Sp) : Prop where
  len : ∀ vs H Q E, sp vs H Q E → vs.length = ps.length
  run : ∀ (A : Around) (outer : List PySem.Env) (s : Shared) (H : Hp) (args : Args) (us : List Value) (vs : List V) (Q : VK) (E : XK), RoomZ k A → Env0 P w K mg base A outer s H → BindsTo s fd args (ps.zip us) → Vals vs us → sp vs H Q E →
    codeAny (model P w) A (.call (.ref f) args) (CR CX outer P w H s Q E) s
section
variable {P : Program} {w : World} {K : PySem.W.Frag} {mg : Str → Option Value} {base : Heap} {CX : CXT} {j k : Nat} {f : Addr} {fd : FuncData} {ps : List Str} {sp sp' : Sp}
theorem FnG.of (F : FnOk P w K mg base CX k f fd ps sp) : FnG P w K mg base CX k f fd ps sp := ⟨F.len, fun A outer s H args us vs Q E hr => F.run A outer s H args us vs Q E hr.r⟩
theorem FnG.mono (F : FnG P w K mg base CX j f fd ps sp) (h : j ≤ k) : FnG P w K mg base CX k f fd ps sp := ⟨F.len, fun A outer s H args us vs Q E hr => F.run A outer s H args us vs Q E (hr.mono h)⟩
theorem FnG.imp (F : FnG P w K mg base CX k f fd ps sp) (h : ∀ vs H Q E, sp' vs H Q E → sp vs H Q E) : FnG P w K mg base CX k f fd ps sp' :=
  ⟨fun vs H Q E q => F.len vs H Q E (h _ _ _ _ q), fun A outer s H args us vs Q E hr he hb hv hs => F.run A outer s H args us vs Q E hr he hb hv (h _ _ _ _ hs)⟩
end
/-- what a call's end says, by its flow -/
theorem end_cases {CX : CXT} {outer : List PySem.Env} {P : Program} {w : World} {H : Hp} {s s' : Shared} {Q : VK} {E : XK} {r : Result} {G : Prop} (h : CR CX outer P w H s Q E r s') (ho : ∀ u, r = .ok (.ret u) → CE outer P w H s Q u s' → G) (he : ∀ e, r = .error e → CX outer H s E e s' → G) : G := by
  rcases r with e | fl
  · exact he e rfl h
  · cases fl with
    | ret u => exact ho u rfl h
    | next => exact h.elim
    | brk => exact h.elim
    | cont => exact h.elim
/-- a def by its body, where nothing is being shown -/
theorem fn_ofG {CX : CXT} {P : Program} {w : World} {K : PySem.W.Frag} {mg : Str → Option Value} {base : Heap} {k : Nat} {f : Addr} {name qual : Str} {params : Arguments} {body : List Stmt} {scope : Scope} {dV kV doc pm cdv ct oc : Value} {an od : Option Addr}
    {osl : Array (Option Value)} {N ps : List Str} {sp : Sp} (lk : K.lookup f = some ⟨oc, od, .func (PySem.W.fnOf name qual params body scope dV kV doc pm an cdv ct), osl⟩) (hcd : PySem.W.codeIn K cdv qual = true) (S : FnScope N ps scope) (len : ∀ vs H Q E, sp vs H Q E → vs.length = ps.length)
    (hb : ∀ (A : Around) (outer : List PySem.Env) (s : Shared) (H : Hp) (vs : List V) (Q : VK) (E : XK), RoomZ k (A.deeper (envOfC qual scope s.heap.objs.size f cdv)) → sp vs H Q E →
      ∃ t, PSs (cxOf CX P w K mg base N qual scope f cdv A outer s H E) body t ∧ t { nx := fun _ H' => Q .non H', rt := Q } (L2.start N vs) H) :
    FnG P w K mg base CX (k + 1) f (PySem.W.fnOf name qual params body scope dV kV doc pm an cdv ct) ps sp := by
  constructor
  · exact len
  intro A outer s H args us vs Q E hr e0 hargs rv hsp
  have kin : K.In s.heap := fun b o e => (e0.bs b o (e0.mod.kin b o e)).1
  have nl : s.heap.NoLimit := e0.mod.nolimit.keeps fun b o e => (e0.bs b o e).1
  have places : ∀ y ∈ ps.zip us, scope.names.lookup y.1 = some .local ∨ (scope.names.lookup y.1 = some .cell ∧ ((cellsFrom (s.heap.objs.size + 1) scope.names []).lookup y.1).isSome = true) := by
    rintro ⟨n, v⟩ hy
    exact (S.par n (List.of_mem_zip hy).1).imp id fun q => ⟨q, PySem.W.cellsFrom_some _ _ _ (.inl q)⟩
  refine codeAny_call_function hr.r.depth (kin _ _ lk) rfl S.co S.gen rfl (PySem.W.codeRec_of kin hcd) (hargs _ _ _ _ (wpAny_newFunctionEnv_cells S.kind places fun env he s1 x => ?_))
  cases he
  refine ⟨nl.keeps x.toInCall.keep, codeAny_func ?_⟩
  obtain ⟨t, ht, ht0⟩ := hb A outer s H vs Q E (hr.deeper _) hsp
  have I := inv_start (CX := CX) (E := E) S hr.r.hd e0 (len _ _ _ _ hsp) rv x
  have back : ∀ {σ : L2.St} {H' : Hp} {v : V} {u : Value} {s' : Shared}, Inv (cxOf CX P w K mg base N qual scope f cdv A outer s H E) [] σ H' s' → RelV v u → Q v H' → CE outer P w H s Q u s' :=
    fun {σ H' v u s'} J r q => ⟨v, H', J.os, J.bare, J.base, J.hok, r, q⟩
  refine wpAny_mono (ht.run [] s1 (L2.start N vs) H _ I ht0) (fun fl s' z => ?_) fun e s' z => z
  match fl, z with
  | .ret u, ⟨v, σ, H', J, r, q⟩ => exact back J r q
  | .next, ⟨σ, H', J, q⟩ => exact back (v := V.non) (u := Value.none) J rfl q
  | .brk, ⟨_, _, _, q⟩ => exact q.elim
  | .cont, ⟨_, _, _, q⟩ => exact q.elim
section
variable {X : Cx} {CX : CXT} {k : Nat} {f : Addr} {fd : FuncData} {ps : List Str} {sp : Sp} {dvs : List V} {ds : List Value} {x : Str} {p pos : Pos} {e : Expr} {es : List Expr} {t : TA}
/-- the call itself -/
theorem run_G {E : XK} {pins : List (Addr × Obj)} {σ : L2.St} {H : Hp} {s : Shared} {Q : VK} {args : Args} {us : List Value} {vs : List V} (F : FnG X.prog X.w X.K X.mg X.base CX k f fd ps sp) (hr : RoomZ k X.A) (hb : BindsTo s fd args (ps.zip us)) (hx : ∀ e s', CX X.stack H s E e s' → X.xe e s')
    (I : Inv X pins σ H s) (r : Vals vs us) (h : sp vs H Q E) : codeAny (model X.prog X.w) X.A (.call (.ref f) args) (wants (EP X pins σ Q) X.xe) s :=
  codeAny_mono (F.run X.A X.stack s H args us vs Q E hr I.env0 hb r h) fun r s' z => end_cases z (fun u e c => by subst e; exact I.after c) fun e q c => by subst q; exact hx e s' c
/-- f(e, ..) -/
theorem pe_callG {E : L2.St → XK} (F : FnG X.prog X.w X.K X.mg X.base CX k f fd ps sp) (hr : RoomZ k X.A) (hg : Gl X x) (hm : X.mg x = some (.ref f)) (hk : PySem.W.keepIn X.K (.ref f) = true) (hb : Binds X.K fd ps ds) (hd : Vals dvs ds) (hx : ∀ σ, PassesAt CX X σ (E σ))
    (ha : PA X (e :: es) t) (hdb : (x == ("__debug__" : Str)) = false := by decide) (he : starEach (e :: es) X.env = (false, eval e X.env) :: starEach es X.env := by rfl) (hpl : (backTo pos (starEach es X.env)).any (·.1) = false := by rfl) :
    PE X (.Call (.Name x p) (e :: es) [] pos) (tCallSD sp dvs E t) := by
  constructor
  intro pins s σ H Q I h
  refine wpAny_Call_Name_kw (ld_glob I hg hm (PySem.W.callWith_K (h₀ := X.base) I.ok.mod.kin hk (thn (ha.run pos pins s σ H _ I h) fun us s1 ⟨vs, H1, I1, r, q⟩ => ⟨I1.kIn, ?_⟩) he hpl) hdb)
  have r2 : Vals (vs ++ dvs) (us ++ ds) := r.append hd
  have hl : (us ++ ds).length = ps.length := r2.length ▸ F.len _ _ _ _ q
  exact wpAny_call (run_G F hr (hb s1 us I1.kIn hl) (fun e s' c => hx σ pins H1 s1 e s' I1 c) I1 r2 q)
theorem run_G1 {E : XK} {pins : List (Addr × Obj)} {σ : L2.St} {H : Hp} {s : Shared} {Q : VK} {us : List Value} {vs : List V} (F : FnG X.prog X.w X.K X.mg X.base CX k f fd ps sp) (hr : RoomZ k X.A) (hb : Binds X.K fd ps []) (hx : Passes CX X E)
    (I : Inv X pins σ H s) (r : Vals vs us) (h : sp vs H Q E) : wpAny (model X.prog X.w) X.A (call (.ref f) us) (EP X pins σ Q) X.xe s := by
  have hl : (us ++ []).length = ps.length := by rw [List.append_nil, ← r.length]; exact F.len _ _ _ _ h
  have b := hb s us I.kIn hl
  rw [List.append_nil] at b
  exact wpAny_call (run_G F hr b (fun e s' c => hx pins σ H s e s' I c) I r h)
/-- f(e, .., k = v, ..) -/
theorem pe_callNG {E : XK} {n : Nat} {ks : List Str} {kws : List Keyword} {tk : TA} {g : List Value → List Value → List Value} {gV : List V → List V → List V} (F : FnG X.prog X.w X.K X.mg X.base CX k f fd ps sp) (hr : RoomZ k X.A) (hg : Gl X x) (hm : X.mg x = some (.ref f)) (hk : PySem.W.keepIn X.K (.ref f) = true) (hb : KBn X.K fd ps n ks g gV) (hx : Passes CX X E)
    (ha : PA X (e :: es) t) (hkw : PK X kws tk) (hall : (backToKw pos (keywordEach kws X.env)).all (·.1.isSome) = true := by rfl) (hks : (backToKw pos (keywordEach kws X.env)).filterMap (·.1) = ks := by rfl)
    (hdb : (x == ("__debug__" : Str)) = false := by decide) (he : starEach (e :: es) X.env = (false, eval e X.env) :: starEach es X.env := by rfl)
    (hpl : ((backTo pos (starEach (e :: es) X.env)).any (·.1) || (backToKw pos (keywordEach kws X.env)).any (·.1.isNone)) = false := by rfl) :
    PE X (.Call (.Name x p) (e :: es) kws pos) (tCallN n ks.length sp gV E t tk) := by
  constructor
  intro pins s σ H Q I h
  refine wpAny_Call_Name_kw (ld_glob I hg hm (PySem.W.callWith_KW (h₀ := X.base) I.ok.mod.kin hk hall (thn (ha.run pos pins s σ H _ I h) fun us s1 ⟨vs, H1, I1, r, q⟩ => thn (hkw.run pos pins s1 σ H1 _ I1 q) fun ws s2 ⟨zs, H2, I2, rz, l1, l2, q2⟩ => ⟨I2.kIn, ?_⟩) hpl he) hdb)
  subst hks
  exact wpAny_call (run_G F hr (hb.to s2 us ws I2.kIn (r.length.symm.trans l1) (rz.length.symm.trans l2)) (fun e s' c => hx pins σ H2 s2 e s' I2 c) I2 (hb.rel r rz) q2)
end
end Z
end

section
set_option Elab.async false
set_option linter.all false
set_option maxRecDepth 100000
set_option maxHeartbeats 1000000
namespace Z
noncomputable section
open PySem PySem.Spec PyProof.Rows L2

theorem passN {X : Cx} : Passes (L2N.CX X.prog X.w) X (fun _ _ _ => False) := fun _ _ _ _ _ _ _ h => by
  obtain ⟨_, _, _, _, _, _, _, _, _, _, _, _, z⟩ := h
  exact z.elim
/-! ### defs -/
abbrev FD := List D → Sto → R D
/-- a def's promise, by what it computes -/
def spOf (K : PySem.W.Frag) (mg : Str → Option Value) (n : Nat) (f : FD) : Sp := fun vs H Q E => vs.length = n ∧ ∃ ι ds S, Sr K H ι S ∧ Rps K H ι vs ds ∧ Post K mg (Rp K) (fun c d _ H => E c d H) [] ι H (f ds S) Q
theorem Post.wish {α β : Type} {K : PySem.W.Frag} {mg : Str → Option Value} {Rel : Hp → Em → β → α → Prop} {W : WX} {σ σ' : L2.St} {ι : Em} {H : Hp} {r : R α} {Q : β → Hp → Prop} {E : XK} (h : Post K mg Rel W σ ι H r Q) (hE : ∀ c d H, W c d σ H → E c d H) : Post K mg Rel (fun c d _ H => E c d H) σ' ι H r Q := by
  cases r with
  | ok a S' => exact h
  | ex c fs S' => exact fun ι2 H2 dd C gs e2 s2 hc hd hn hl => hE _ _ _ (h ι2 H2 dd C gs e2 s2 hc hd hn hl)
  | bad => exact h
/-- what a body computes, called -/
def fnF (n : Nat) (body : SDen) : FD := fun ds S => match body (ds.map some ++ List.replicate (n - ds.length) none) S with
  | .nx _ S' => .ok .non S'
  | .rt d S' => .ok d S'
  | .ex c fs _ S' => .ex c fs S'
  | _ => .bad
theorem er_start {K : PySem.W.Frag} {H : Hp} {ι : Em} {vs : List V} {ds : List D} {N : List Str} (r : Rps K H ι vs ds) (hN : vs.length ≤ N.length) : Er K H ι (L2.start N vs) (ds.map some ++ List.replicate (N.length - ds.length) none) := by
  refine ⟨by simp [L2.start, r.length], fun i d e => ?_⟩
  by_cases hi : i < ds.length
  · rw [List.getElem?_append_left (by simpa using hi)] at e
    rw [List.getElem?_map] at e
    cases q : ds[i]? with
    | none => rw [q] at e; cases e
    | some d' =>
      rw [q] at e; cases e
      obtain ⟨v, hv, rv⟩ := r.get q
      refine ⟨v, ?_, rv⟩
      unfold L2.start
      rw [List.getElem?_append_left (by rw [List.length_map, r.length]; exact hi), List.getElem?_map, hv]
      rfl
  · rw [List.getElem?_append_right (by simpa using hi)] at e
    have := List.getElem?_replicate (a := (none : Option D)) (n := N.length - ds.length) (i := i - (ds.map some).length)
    rw [this] at e
    split at e <;> cases e
section
variable {P : Program} {w : World} {K : PySem.W.Frag} {mg : Str → Option Value} {base : Heap}
abbrev wE (E : XK) : WX := fun c d _ H => E c d H
abbrev FnZ (P : Program) (w : World) (K : PySem.W.Frag) (mg : Str → Option Value) (base : Heap) (k : Nat) (f : Addr) (fd : FuncData) (ps : List Str) (F : FD) : Prop := FnG P w K mg base (L2N.CX P w) k f fd ps (spOf K mg ps.length F)
theorem fun_okN {G : CXT} {x qual : Str} {st : Stmt} {f : Addr} {fd : FuncData} {N ps : List Str} {k : Nat} {sp : Sp} (F : Fun K x qual st f fd) (S : FnScope N ps (defScope st)) (len : ∀ vs H Q E, sp vs H Q E → vs.length = ps.length)
    (hb : ∀ (cdv : Value) (A : Around) (outer : List PySem.Env) (s : Shared) (H : Hp) (vs : List V) (Q : VK) (E : XK), Room k (A.deeper (envOfC qual (defScope st) s.heap.objs.size f cdv)) → sp vs H Q E →
      ∃ t, PSs (cxOf G P w K mg base N qual (defScope st) f cdv A outer s H E) (defBody st) t ∧ t { nx := fun _ H' => Q .non H', rt := Q } (L2.start N vs) H) : FnOk P w K mg base G (k + 1) f fd ps sp := by
  obtain ⟨oc, od, kV, doc, pm, an, cdv, ct, osl, rfl, lk, hcd⟩ := F.ex
  exact fn_of lk hcd S len (hb cdv)
/-- THE RULE for a def -/
theorem fn_ok {x qual : Str} {st : Stmt} {f : Addr} {fd : FuncData} {N ps : List Str} {k : Nat} {body : SDen} (F : Fun K x qual st f fd) (S : FnScope N ps (defScope st)) (hN : ps.length ≤ N.length)
    (hb : ∀ (cdv : Value) (A : Around) (outer : List PySem.Env) (s : Shared) (H : Hp) (E : XK), RoomZ k (A.deeper (envOfC qual (defScope st) s.heap.objs.size f cdv)) →
      L2N.Takes (cxOf (L2N.CX P w) P w K mg base N qual (defScope st) f cdv A outer s H E) (wE E) → SSs (cxOf (L2N.CX P w) P w K mg base N qual (defScope st) f cdv A outer s H E) (wE E) (defBody st) body) :
    FnZ P w K mg base (k + 1) f fd ps (fnF N.length body) := by
  obtain ⟨oc, od, kV, doc, pm, an, cdv, ct, osl, rfl, lk, hcd⟩ := F.ex
  refine fn_ofG lk hcd S (fun vs H Q E h => h.1) fun A outer s H vs Q E hr h => ⟨_, hb cdv A outer s H E hr (L2N.takes_of rfl rfl rfl rfl), ?_⟩
  obtain ⟨hl, ι, ds, S0, sr, r, p⟩ := h
  refine ⟨ι, _, S0, sr, er_start r (by rw [hl]; exact hN), ?_⟩
  unfold fnF at p
  show PostS K mg (wE E) ι H (body (ds.map some ++ List.replicate (N.length - ds.length) none) S0) _
  cases q : body (ds.map some ++ List.replicate (N.length - ds.length) none) S0 with
  | nx e S' => rw [q] at p; exact fun ι' H' σ' e1 s1 _ => p ι' H' .non e1 s1 .non
  | rt d S' => rw [q] at p; exact p
  | ex c fs e S' => rw [q] at p; exact fun ι' H' σ' dd C gs e1 s1 _ => p ι' H' dd C gs e1 s1
  | bk e S' => rw [q] at p; exact p.elim
  | ct e S' => rw [q] at p; exact p.elim
  | bad => rw [q] at p; exact p.elim
end
/-- f(..): the written arguments, then the defaults -/
def dCall (F : FD) (dds : List D) (a : DenA) : Den := fun env S => (a env S).bind fun ds S1 => F (ds ++ dds) S1
/-- constants for defaults -/
inductive Flats : List V → List D → Prop
  | nil : Flats [] []
  | cons {v : V} {d : D} {vs : List V} {ds : List D} : Flat v d → Flats vs ds → Flats (v :: vs) (d :: ds)
theorem Flats.rps {K : PySem.W.Frag} {H : Hp} {ι : Em} : ∀ {vs : List V} {ds : List D}, Flats vs ds → Rps K H ι vs ds
  | _, _, .nil => .nil
  | _, _, .cons h hs => .cons h.rp hs.rps
section
variable {X : Cx} {W : WX} {k : Nat} {f : Addr} {fd : FuncData} {ps : List Str} {F : FD} {dvs : List V} {dds : List D} {us : List Value} {x : Str} {p pos : Pos} {e : Expr} {es : List Expr} {da : DenA}
theorem rd_call {K : PySem.W.Frag} {mg : Str → Option Value} {σ : L2.St} {H : Hp} {Q : VK} {n : Nat} (fl : Flats dvs dds) (hn : ∀ ds S, ds.length + dds.length ≠ n → F (ds ++ dds) S = .bad) (h : rd K mg W (dCall F dds da) σ H Q) : tCallSD (spOf K mg n F) dvs (WE W) (rdA K mg W da) σ H Q := by
  obtain ⟨ι, env, S, s, er, q⟩ := h
  refine ⟨ι, env, S, s, er, (Post.bind (Rel' := Rps K) q).mono ?_⟩
  rintro xs H1 ⟨ι1, ds, S1, e1, s1, r1, p1⟩
  have r2 := r1.append (fl.rps (K := K) (H := H1) (ι := ι1))
  by_cases hl : ds.length + dds.length = n
  · exact ⟨by rw [r2.length, List.length_append]; exact hl, ι1, _, S1, s1, r2, Post.wish (E := WE W σ) p1 fun _ _ _ h => h⟩
  · rw [hn ds S1 hl] at p1; exact p1.elim
/-- a call's result where the number of arguments is right -/
def arity (n : Nat) (F : FD) : FD := fun ds S => if ds.length = n then F ds S else .bad
theorem e_call {n : Nat} (Fk : FnZ X.prog X.w X.K X.mg X.base k f fd ps F) (hr : RoomZ k X.A) (hm : X.mg x = some (.ref f)) (hk : PySem.W.keepIn X.K (.ref f) = true) (hb : Binds X.K fd ps us) (hd : Vals dvs us) (fl : Flats dvs dds) (tk : L2N.Takes X W) (ha : AA X W (e :: es) da) (hn : ps.length = n := by rfl) (hg : Gl X x := by rfl)
    (hdb : (x == ("__debug__" : Str)) = false := by decide) (he : starEach (e :: es) X.env = (false, eval e X.env) :: starEach es X.env := by rfl) (hpl : (backTo pos (starEach es X.env)).any (·.1) = false := by rfl) :
    EE X W (.Call (.Name x p) (e :: es) [] pos) (dCall (arity n F) dds da) := by
  subst hn
  have F2 : FnG X.prog X.w X.K X.mg X.base (L2N.CX X.prog X.w) k f fd ps (spOf X.K X.mg ps.length (arity ps.length F)) := Fk.imp fun vs H Q E h => by
    obtain ⟨h1, ι, ds, S, s, r, q⟩ := h
    unfold arity at q
    rw [if_pos (by rw [← r.length]; exact h1)] at q
    exact ⟨h1, ι, ds, S, s, r, q⟩
  refine PE.imp (pe_callG F2 hr hg hm hk hb hd (fun σ => L2N.passAt tk σ) ha hdb he hpl) fun σ H Q h => rd_call fl (fun ds S hn => ?_) h
  unfold arity
  rw [if_neg (by rw [List.length_append]; exact hn)]
end

/-! ### methods of built-in types -/
inductive Mt where
  | list | str
def Mt.nm : Mt → String
  | .list => "list" | .str => "str"
def tyD : Mt → D → Sto → Bool
  | .list, x, S => (lstOf S x).isSome
  | .str, .str _, _ => true
  | _, _, _ => false
def dBM (t : Mt) (f : D → List D → Sto → R D) (o : Den) (a : DenA) : Den := fun env S => (o env S).bind fun x S1 => if tyD t x S1 = true then (a env S1).bind fun ys S2 => f x ys S2 else .bad
def dBM0 (t : Mt) (f : D → List D → Sto → R D) (o : Den) : Den := fun env S => (o env S).bind fun x S1 => if tyD t x S1 = true then f x [] S1 else .bad
def MzS (K : PySem.W.Frag) (r : V → List V → Hp → VK → Prop) (f : D → List D → Sto → R D) : Prop :=
  ∀ (mg : Str → Option Value) (W : WX) (σ : L2.St) (ι : Em) (H : Hp) (S : Sto) (x : V) (dx : D) (ys : List V) (dys : List D) (Q : VK), Sr K H ι S → Rp K H ι x dx → Rps K H ι ys dys → Post K mg (Rp K) W σ ι H (f dx dys S) Q → r x ys H Q
section
variable {X : Cx} {W : WX} {o e : Expr} {es : List Expr} {d : Den} {da : DenA} {apos cpos : Pos} {name : Str} {id : String} {r : V → List V → Hp → VK → Prop} {f : D → List D → Sto → R D}
theorem tyD_ok {K : PySem.W.Frag} {H : Hp} {ι : Em} {S : Sto} {v : V} {x : D} {t : Mt} (s : Sr K H ι S) (r : Rp K H ι v x) (h : tyD t x S = true) : tyV K t.nm v H := by
  cases t with
  | list =>
    simp only [tyD, Option.isSome_iff_exists] at h
    obtain ⟨xs, e⟩ := h
    obtain ⟨a, vs, rfl, hs, _⟩ := lst_inv s r e
    exact .inl ⟨rfl, vs, hs⟩
  | str =>
    cases x with
    | str z => cases r; exact rfl
    | _ => cases h
theorem e_bm (t : Mt) (pa : PlainAttrs t.nm) (slot : Slot t.nm name id) (hty : typeOf (.builtin id) = pure (.type "method_descriptor")) (hm : MtR X id r) (hf : MzS X.K r f) (ho : EE X W o d) (ha : AA X W (e :: es) da)
    (hbase : attributeBase o name X.env (eval o X.env) = eval o X.env := by rfl)
    (hfew : ((backTo cpos (starEach (e :: es) X.env)).all (fun x => !x.1) && (backToKw cpos (keywordEach [] X.env)).all (fun x => x.1.isSome) && decide ((e :: es).length + ([] : List Keyword).length + (if ([] : List Keyword).isEmpty then 0 else 1) < 30)) = true := by rfl)
    (hline : (apos.endLine == cpos.line) = true := by rfl) (hs : starEach (e :: es) X.env = (false, eval e X.env) :: starEach es X.env := by rfl) (hplain : (backTo cpos (starEach es X.env)).any (·.1) = false := by rfl) :
    EE X W (.Call (.Attribute o name apos) (e :: es) [] cpos) (dBM t f d da) := PE.imp (pe_bm pa slot hty hm ho ha hbase hfew hline hs hplain) fun σ H Q h => by
  obtain ⟨ι, env, S, s, er, p⟩ := h
  refine ⟨ι, env, S, s, er, (Post.bind (Rel' := Rp X.K) p).mono ?_⟩
  rintro x H1 ⟨ι1, dx, S1, e1, s1, r1, p1⟩
  split at p1
  · rename_i ht
    refine ⟨tyD_ok s1 r1 ht, ι1, env, S1, s1, er.ext e1, (Post.bind (Rel' := Rps X.K) p1).mono ?_⟩
    rintro ys H2 ⟨ι2, dys, S2, e2, s2, r2, p2⟩
    exact hf _ _ σ ι2 H2 S2 x dx ys dys Q s2 (r1.ext e2) r2 p2
  · exact p1.elim
theorem e_bm0 (t : Mt) (pa : PlainAttrs t.nm) (slot : Slot t.nm name id) (hty : typeOf (.builtin id) = pure (.type "method_descriptor")) (hm : MtR X id r) (hf : MzS X.K r f) (ho : EE X W o d)
    (hbase : attributeBase o name X.env (eval o X.env) = eval o X.env := by rfl) (hline : (apos.endLine == cpos.line) = true := by rfl) :
    EE X W (.Call (.Attribute o name apos) [] [] cpos) (dBM0 t f d) := PE.imp (pe_bm0 pa slot hty hm ho hbase hline) fun σ H Q h => by
  obtain ⟨ι, env, S, s, er, p⟩ := h
  refine ⟨ι, env, S, s, er, (Post.bind (Rel' := Rp X.K) p).mono ?_⟩
  rintro x H1 ⟨ι1, dx, S1, e1, s1, r1, p1⟩
  split at p1
  · rename_i ht
    exact ⟨tyD_ok s1 r1 ht, hf _ _ σ ι1 H1 S1 x dx [] [] Q s1 r1 .nil p1⟩
  · exact p1.elim
end
def fApp (x : D) (ys : List D) (S : Sto) : R D := match x, ys with
  | .ref n, [y] => match S[n]? with
    | some (.lst xs) => if FitS xs.length then .ok .non (S.set n (.lst (xs ++ [y]))) else .bad
    | none => .bad
  | _, _ => .bad
def fPop (x : D) (ys : List D) (S : Sto) : R D := match x, ys with
  | .ref n, [] => match S[n]? with
    | some (.lst xs) => match xs[xs.length - 1]? with
      | some y => .ok y (S.set n (.lst xs.dropLast))
      | none => .bad
    | none => .bad
  | _, _ => .bad
def fRevM (x : D) (ys : List D) (S : Sto) : R D := match x, ys with
  | .ref n, [] => match S[n]? with
    | some (.lst xs) => .ok .non (S.set n (.lst xs.reverse))
    | none => .bad
  | _, _ => .bad
section
variable {K : PySem.W.Frag}
theorem refL {H : Hp} {ι : Em} {S : Sto} {v : V} {n : Nat} {xs : List D} (s : Sr K H ι S) (r : Rp K H ι v (.ref n)) (e : S[n]? = some (.lst xs)) : ∃ a vs, v = .ref a ∧ ι.c[n]? = some a ∧ H a = some (.lst vs) ∧ Rps K H ι vs xs := by
  obtain ⟨a, rfl, ea⟩ := r.ref_inv
  obtain ⟨vs, h1, h2⟩ := s.list ea e
  exact ⟨a, vs, rfl, ea, h1, h2⟩
theorem Rps.dropLast {H : Hp} {ι : Em} {vs : List V} {ds : List D} (r : Rps K H ι vs ds) : Rps K H ι vs.dropLast ds.dropLast := by
  rw [List.dropLast_eq_take, List.dropLast_eq_take, r.length]; exact r.take _
theorem sApp : MzS K rAppend fApp := by
  intro mg W σ ι H S x dx ys dys Q s r rs p
  unfold fApp at p
  split at p
  · rename_i n y
    split at p
    · rename_i xs e
      split at p
      · rename_i hl
        obtain ⟨a, vs, rfl, ea, h1, h2⟩ := refL s r e
        obtain ⟨u, rfl, ru⟩ := rps1 rs
        exact ⟨a, vs, u, rfl, rfl, h1, by rw [h2.length]; exact hl, p ι _ _ (Ext.put ea) (s.put ea (h2.append (.cons ru .nil))) .non⟩
      · exact p.elim
    · exact p.elim
  · exact p.elim
theorem sPop : MzS K rPop fPop := by
  intro mg W σ ι H S x dx ys dys Q s r rs p
  unfold fPop at p
  split at p
  · rename_i n
    cases rs
    split at p
    · rename_i xs e
      split at p
      · rename_i y e2
        obtain ⟨a, vs, rfl, ea, h1, h2⟩ := refL s r e
        obtain ⟨u, e3, ru⟩ := h2.get e2
        exact ⟨a, vs, u, rfl, rfl, h1, by rw [h2.length]; exact e3, p ι _ _ (Ext.put ea) (s.put ea h2.dropLast) (ru.ext (Ext.put ea))⟩
      · exact p.elim
    · exact p.elim
  · exact p.elim
theorem sRevM : MzS K rReverse fRevM := by
  intro mg W σ ι H S x dx ys dys Q s r rs p
  unfold fRevM at p
  split at p
  · rename_i n
    cases rs
    split at p
    · rename_i xs e
      obtain ⟨a, vs, rfl, ea, h1, h2⟩ := refL s r e
      exact ⟨a, vs, rfl, rfl, h1, p ι _ _ (Ext.put ea) (s.put ea h2.reverse) .non⟩
    · exact p.elim
  · exact p.elim
end
/-! ### all, any of a list of bools -/
def boolsOf : List D → Option (List Bool)
  | [] => some []
  | .bl b :: xs => (boolsOf xs).map fun bs => b :: bs
  | _ :: _ => none
def fAll (xs : List D) (S : Sto) : R D := match xs with
  | [x] => match lstOf S x with
    | some ys => match boolsOf ys with
      | some bs => .ok (.bl (bs.all id)) S
      | none => .bad
    | none => .bad
  | _ => .bad
def fAny (xs : List D) (S : Sto) : R D := match xs with
  | [x] => match lstOf S x with
    | some ys => match boolsOf ys with
      | some bs => .ok (.bl (bs.any id)) S
      | none => .bad
    | none => .bad
  | _ => .bad
section
variable {K : PySem.W.Frag}
theorem bools_rp {H : Hp} {ι : Em} : ∀ {ds : List D} {vs : List V} {bs : List Bool}, Rps K H ι vs ds → boolsOf ds = some bs → vs = bs.map V.bl
  | [], _, _, r, e => by cases r; cases e; rfl
  | d :: ds, _, _, r, e => by
    cases r with
    | cons r rs =>
      cases d with
      | bl b =>
        rw [boolsOf] at e
        cases q : boolsOf ds with
        | none => rw [q] at e; cases e
        | some bs => rw [q] at e; cases e; cases r; rw [bools_rp rs q]; rfl
      | _ => cases e
theorem sAll : CbS K (rAll K) fAll := by
  intro mg W σ ι H S xs ds Q s r p
  unfold fAll at p
  split at p
  · obtain ⟨x, rfl, r0⟩ := rps1 r
    split at p
    · rename_i ys e
      split at p
      · rename_i bs e2
        obtain ⟨a, vs, rfl, hs, rs⟩ := lst_inv s r0 e
        rw [bools_rp rs e2] at hs
        exact ⟨a, bs, rfl, hs, p.ret s (.bl _)⟩
      · exact p.elim
    · exact p.elim
  · exact p.elim
theorem sAny : CbS K (rAny K) fAny := by
  intro mg W σ ι H S xs ds Q s r p
  unfold fAny at p
  split at p
  · obtain ⟨x, rfl, r0⟩ := rps1 r
    split at p
    · rename_i ys e
      split at p
      · rename_i bs e2
        obtain ⟨a, vs, rfl, hs, rs⟩ := lst_inv s r0 e
        rw [bools_rp rs e2] at hs
        exact ⟨a, bs, rfl, hs, p.ret s (.bl _)⟩
      · exact p.elim
    · exact p.elim
  · exact p.elim
end

/-! ### [e for t in xs if c] -/
def wipeE (env : Env) : List Nat → Env
  | [] => env
  | v :: vs => (wipeE env vs).set v none
theorem Er.wipe {K : PySem.W.Frag} {H : Hp} {ι : Em} {σ : L2.St} {env : Env} (h : Er K H ι σ env) : ∀ vs : List Nat, Er K H ι (L2.wipe σ vs) (wipeE env vs)
  | [] => h
  | v :: vs => (Er.wipe h vs).unset
open Classical in
noncomputable def lcGo (g : Sto → Prop) (t : Tg) (c : DenT) (elt : Den) (env : Env) : List D → List D → Sto → R (List D)
  | [], acc, S => if g S then .ok acc S else .bad
  | x :: xs, acc, S => if g S then match t.run x env with
    | some env' => match c env' S with
      | .ok b S1 => if b then (match elt env' S1 with
        | .ok y S2 => if FitS acc.length then lcGo g t c elt env xs (acc ++ [y]) S2 else .bad
        | _ => .bad) else lcGo g t c elt env xs acc S1
      | _ => .bad
    | none => .bad
    else .bad
def lcEnd (cell : Bool) (ys : List D) (S2 : Sto) : R D := if cell then .ok (.ref S2.length) (S2 ++ [.lst ys]) else .ok (.lst ys) S2
/-- cell: the new list is put into the store at the end -/
noncomputable def dLc (cell : Bool) (src : DenI) (vs : List Nat) (t : Tg) (c : DenT) (elt : Den) : Den := fun env S => (src env S).bind fun a S1 => (lcGo a.2 t c elt (wipeE env vs) a.1 [] S1).bind (lcEnd cell)
theorem wipe_sets : ∀ {ws : List (Nat × V)} {σ : L2.St} {vs : List Nat}, (∀ p ∈ ws, p.1 ∈ vs) → L2.wipe (setsV σ ws) vs = L2.wipe σ vs
  | [], _, _, _ => rfl
  | (i, v) :: r, σ, vs, h => by
    show L2.wipe (setsV (σ.set i (some v)) r) vs = _
    rw [wipe_sets fun p hp => h p (List.mem_cons_of_mem _ hp)]
    have hi : i ∈ vs := h (i, v) List.mem_cons_self
    clear h
    induction vs with
    | nil => cases hi
    | cons u us ih =>
      show (L2.wipe (σ.set i (some v)) us).set u none = (L2.wipe σ us).set u none
      by_cases hm : i ∈ us
      · rw [ih hm]
      · have e : i = u := by
          rcases List.mem_cons.mp hi with e | e
          · exact e
          · exact absurd e hm
        subst e
        have g : ∀ (τ : L2.St) (us : List Nat), i ∉ us → L2.wipe (τ.set i (some v)) us = (L2.wipe τ us).set i (some v) := fun τ us hu => by
          induction us with
          | nil => rfl
          | cons w ws ih2 =>
            show (L2.wipe (τ.set i (some v)) ws).set w none = ((L2.wipe τ ws).set w none).set i (some v)
            rw [ih2 fun z => hu (List.mem_cons_of_mem _ z)]
            exact List.set_comm _ _ fun z => hu (z ▸ List.mem_cons_self)
        rw [g σ us hm, List.set_set]
section
variable {X : Cx} {W : WX}
abbrev W0 : WX := fun _ _ _ _ => False
theorem wipe_idem (σ : L2.St) (vs : List Nat) : L2.wipe (L2.wipe σ vs) vs = L2.wipe σ vs := by
  have g : ∀ (us : List Nat) (τ : L2.St), (∀ u ∈ us, ∀ j, j < τ.length → u = j → τ[j]? = some none) → L2.wipe τ us = τ := fun us => by
    induction us with
    | nil => intro τ _; rfl
    | cons u us ih =>
      intro τ h
      show (L2.wipe τ us).set u none = τ
      rw [ih τ fun w hw => h w (List.mem_cons_of_mem _ hw)]
      apply List.ext_getElem?
      intro j
      by_cases e : u = j
      · subst e
        by_cases hl : u < τ.length
        · rw [List.getElem?_set_self hl, h u List.mem_cons_self u hl rfl]
        · rw [List.getElem?_eq_none (by simpa using hl), List.getElem?_eq_none (by simpa using hl)]
      · rw [List.getElem?_set_ne e]
  have k : ∀ (us : List Nat) (u : Nat) (j : Nat), u ∈ us → u = j → j < (L2.wipe σ us).length → (L2.wipe σ us)[j]? = some none := fun us => by
    induction us with
    | nil => intro u j h; cases h
    | cons w ws ih =>
      intro u j hu e hl
      subst e
      show ((L2.wipe σ ws).set w none)[u]? = some none
      by_cases e2 : w = u
      · subst e2
        rw [List.getElem?_set_self (by rw [L2.wipe_length] at hl ⊢; exact hl)]
      · rw [List.getElem?_set_ne e2]
        rcases List.mem_cons.mp hu with q | q
        · exact absurd q.symm e2
        · exact ih u u q rfl (by rw [L2.wipe_length] at hl ⊢; exact hl)
  exact g vs _ fun u hu j hl e => k vs u j hu e hl
theorem rd_lc {K : PySem.W.Frag} {mg : Str → Option Value} {cell : Bool} {src : DenI} {vs : List Nat} {t : Tg} {c : DenT} {elt : Den} (hsl : ∀ i ∈ t.sl, i ∈ vs) {σ : L2.St} {H : Hp} {Q : VK} (h : rd K mg W (dLc cell src vs t c elt) σ H Q) :
    tLc (rdI K mg W src) (rdG K t) (rdT K mg W0 c) (rd K mg W0 elt) vs σ H Q := by
  obtain ⟨ι, env, S, s, er, p⟩ := h
  refine ⟨ι, env, S, s, er, (Post.bind (Rel' := fun H1 ι1 J a => ItOk K J a.1 a.2 ι1 H1) p).mono ?_⟩
  rintro J H1 ⟨ι1, ⟨xs, g⟩, S1, e1, s1, r1, p1⟩
  have erw := (er.ext e1).wipe vs
  clear p er e1 s
  simp only at r1 p1
  intro Da hD
  have hDb : Da ∉ ι1.b := fun z => s1.ban _ z hD
  refine ⟨fun i m H => m = xs.length - i ∧ i ≤ xs.length ∧ ∃ ι2 S2 acc us, Ext ι1 H1 ι2 H ∧ Sr K H ι2 S2 ∧ Da ∈ ι2.b ∧ Da ∉ ι2.c ∧ H Da = some (.lst us) ∧ Rps K H ι2 us acc ∧
      Post K mg (Rp K) W σ ι1 H1 ((lcGo g t c elt (wipeE env vs) (xs.drop i) acc S2).bind (lcEnd cell)) Q,
    ⟨xs.length, rfl, Nat.zero_le _, ι1.ban Da, S1, [], [], Ext.banned hD, s1.banned hD, List.mem_cons_self, s1.outC hD, upd_same, .nil, p1⟩, ?_⟩
  rintro i m H2 ⟨rfl, hi, ι2, S2, acc, us, e2, s2, hb, hc, hd, ra, p2⟩
  by_cases hlt : i < xs.length
  · rw [List.drop_eq_getElem_cons hlt] at p2
    simp only [lcGo] at p2
    split at p2
    · rename_i hg2
      obtain ⟨go, gy⟩ := r1.go ι2 H2 S2 i _ e2 s2 hg2 (List.getElem?_eq_getElem hlt)
      refine .inr ⟨go, fun H' => ∃ ι2 S2 acc us, Ext ι1 H1 ι2 H' ∧ Sr K H' ι2 S2 ∧ Da ∈ ι2.b ∧ Da ∉ ι2.c ∧ H' Da = some (.lst us) ∧ Rps K H' ι2 us acc ∧
        Post K mg (Rp K) W σ ι1 H1 ((lcGo g t c elt (wipeE env vs) (xs.drop (i + 1)) acc S2).bind (lcEnd cell)) Q,
        fun H' q => ⟨xs.length - (i + 1), by omega, rfl, hlt, q⟩, fun v H3 y => ?_⟩
      obtain ⟨e3, s3, r3⟩ := gy v H3 y
      split at p2
      · rename_i env' e5
        refine ⟨ι2, wipeE env vs, _, env', (erw.ext e2).ext e3, r3, e5, fun ws hw er' => ⟨?_, ?_⟩⟩
        · rw [wipe_sets fun p hp => hsl _ (hw p hp), wipe_idem]
        have hd3 : H3 Da = some (.lst us) := e3.keep _ _ hc hd
        refine ⟨ι2, env', S2, s3, er', ?_⟩
        split at p2
        · rename_i b S3 ec
          rw [ec]
          intro ι3 H4 b' e4 s4 hbb
          subst hbb
          have hc4 : Da ∉ ι3.c := e4.outC hc hd3
          have hd4 : H4 Da = some (.lst us) := e4.keep _ _ hc hd3
          have hb4 : Da ∈ ι3.b := by obtain ⟨nb, q, _⟩ := e4.ban; rw [q]; exact List.mem_append_right _ hb
          have e14 := (e2.tr s2 e3).tr s3 e4
          cases b' with
          | false =>
            rw [if_neg Bool.false_ne_true]
            exact ⟨ι3, S3, acc, us, e14, s4, hb4, hc4, hd4, (ra.ext e3).ext e4, p2⟩
          | true =>
            rw [if_pos rfl]
            simp only [if_true] at p2
            refine ⟨ι3, env', S3, s4, er'.ext e4, ?_⟩
            split at p2
            · rename_i y1 S5 ee
              rw [ee]
              intro ι4 H5 yv e5' s5 r5
              have hc5 : Da ∉ ι4.c := e5'.outC hc4 hd4
              have hd5 : H5 Da = some (.lst us) := e5'.keep _ _ hc4 hd4
              have hb5 : Da ∈ ι4.b := by obtain ⟨nb, q, _⟩ := e5'.ban; rw [q]; exact List.mem_append_right _ hb4
              split at p2
              · rename_i hl
                have ra5 := ((ra.ext e3).ext e4).ext e5'
                have e15 := e14.tr s4 e5'
                refine ⟨us, hd5, by rw [ra5.length]; exact hl, ι4, S5, acc ++ [y1], us ++ [yv], ?_, s5.ban2 hb5 hc5, hb5, hc5, upd_same, (ra5.append (.cons r5 .nil)).ban2 hb5, p2⟩
                exact ⟨e15.ban, e15.pre, fun a o ha h => by rw [upd_ne (ne_of_none h hD)]; exact e15.keep0 a o ha h⟩
              · exact p2.elim
            · exact p2.elim
        · exact p2.elim
      · exact p2.elim
    · exact p2.elim
  · have hi' : i = xs.length := by omega
    subst hi'
    rw [List.drop_length] at p2
    simp only [lcGo] at p2
    split at p2
    · rename_i hg2
      refine .inl ⟨r1.stop ι2 H2 S2 e2 s2 hg2, ?_⟩
      rcases e2.free (p := Da) with ef | ef
      · cases cell with
        | false =>
          exact p2 (ι2.free Da) H2 (.ref Da) ef s2.free (.lst (fun z => by
            rcases z with z | z
            · exact hc z
            · simpa using (List.mem_filter.mp z).2) hd (ra.less (fun _ => Em.free_has) fun _ _ z => z))
        | true =>
          refine p2 ((ι2.free Da).push Da) H2 (.ref Da) ⟨ef.ban, ?_, ef.keep0⟩ (s2.adopt hb hc hd ra) (.ref ?_)
          · obtain ⟨new, q, k⟩ := ef.pre
            replace q : ι2.c = ι1.c ++ new := q
            refine ⟨new ++ [Da], ?_, fun p hp => ?_⟩
            · show ι2.c ++ [Da] = _
              rw [← List.append_assoc, ← q]
            · rcases List.mem_append.mp hp with hp | hp
              · exact k p hp
              · cases List.mem_singleton.mp hp; exact hD
          · show (ι2.c ++ [Da])[S2.length]? = some Da
            rw [← s2.len]; simp
      · exact absurd ef hDb
    · exact p2.elim
def tYesD : DenT := fun _ S => .ok true S
theorem rdT_yes {K : PySem.W.Frag} {mg : Str → Option Value} {W : WX} {σ : L2.St} {H : Hp} {Q : Bool → Hp → Prop} (h : rdT K mg W tYesD σ H Q) : tYes σ H Q := by
  obtain ⟨ι, env, S, s, er, p⟩ := h
  exact p.ret s rfl
end
end
end Z
end

section
set_option Elab.async false
set_option linter.all false
set_option maxRecDepth 100000
set_option maxHeartbeats 1000000
namespace Z
noncomputable section
open PySem PySem.Spec PyProof.Rows L2

/-! ### comprehensions, in short -/
section
variable {X : Cx} {W : WX} {tg iter elt c : Expr} {src : DenI} {t : Tg} {dc : DenT} {d : Den} {scope : Scope} {own : List (Str × Nat)} {pos : Pos}
theorem ts_nil {X : Cx} {K : PySem.W.Frag} {mg : Str → Option Value} : PTs X [] (rdT K mg W0 tYesD) := ⟨fun pins s σ H Q I h => pts_nil.run pins s σ H Q I (rdT_yes h)⟩
theorem ts_one {X : Cx} {K : PySem.W.Frag} {mg : Str → Option Value} (h : PT X c (rdT K mg W0 dc)) : PTs X [c] (rdT K mg W0 dc) := pts_one h
theorem e_lc (cell : Bool) (hc : X.calm = true) (hN : X.N.Nodup) {ifs : List Expr} (hi : II X W tg iter src) (ok : BlkOk X.N X.env.scope scope own)
    (hg : ∀ (s : Shared) (H : Hp) (C : Addr) (cl : List (Str × Addr)) (fp : List Addr), PG (X.blk s H scope (compEnvC scope cl C X.env) fp) tg (rdG X.K t)) (ht : ∀ (s : Shared) (H : Hp) (C : Addr) (cl : List (Str × Addr)) (fp : List Addr), PTs (X.blk s H scope (compEnvC scope cl C X.env) fp) ifs (rdT X.K X.mg W0 dc))
    (he : ∀ (s : Shared) (H : Hp) (C : Addr) (cl : List (Str × Addr)) (fp : List Addr), PE (X.blk s H scope (compEnvC scope cl C X.env) fp) elt (rd X.K X.mg W0 d)) (hsl : ∀ i ∈ t.sl, i ∈ own.map (·.2)) (hs : ∀ x, foldedSetIterable iter X.env x = pure x := by intro _; rfl) :
    EE X W (.ListComp elt [⟨tg, iter, ifs, 0⟩] scope pos) (dLc cell src (own.map (·.2)) t dc d) := PE.imp (pe_lc hc hN hi ok hg ht he hs) fun σ H Q h => rd_lc hsl h
theorem s_setLc (cell : Bool) {i : Nat} {y : Str} {py spos : Pos} (hc : X.calm = true) (hN : X.N.Nodup) (hy : X.N[i]? = some y) (hyl : X.env.scope.names.lookup y = some .local) {ifs : List Expr}
    (hsw : swapsWith (.ListComp elt [⟨tg, iter, ifs, 0⟩] scope pos) (some (.Name y py)) spos.line X.env = pure true) (hi : II X W tg iter src) (ok : BlkOk X.N X.env.scope scope own)
    (hg : ∀ (s : Shared) (H : Hp) (C : Addr) (cl : List (Str × Addr)) (fp : List Addr), PG (X.blk s H scope (compEnvC scope cl C X.env) fp) tg (rdG X.K t)) (ht : ∀ (s : Shared) (H : Hp) (C : Addr) (cl : List (Str × Addr)) (fp : List Addr), PTs (X.blk s H scope (compEnvC scope cl C X.env) fp) ifs (rdT X.K X.mg W0 dc))
    (he : ∀ (s : Shared) (H : Hp) (C : Addr) (cl : List (Str × Addr)) (fp : List Addr), PE (X.blk s H scope (compEnvC scope cl C X.env) fp) elt (rd X.K X.mg W0 d)) (hsl : ∀ i ∈ t.sl, i ∈ own.map (·.2)) (hs : ∀ x, foldedSetIterable iter X.env x = pure x := by intro _; rfl) :
    SS X W (.Assign [.Name y py] (.ListComp elt [⟨tg, iter, ifs, 0⟩] scope pos) spos) (sSet i (dLc cell src (own.map (·.2)) t dc d)) := PS.imp (ps_setLc hc hN hy hyl hsw hi ok hg ht he hs) fun Dn σ H h => by
  obtain ⟨ι, env, S, s, er, p⟩ := h
  have q := PostS.lift (Rel := Rp X.K) p er
  refine rd_lc hsl ⟨ι, env, S, s, er, q.mono ?_⟩
  rintro x H1 ⟨ι1, dx, S1, e1, s1, r1, p1⟩
  exact p1.nx s1 ((er.ext e1).set r1)
end

/-! ### errors of the program's own -/
/-- what the written part says of an error class c at C with the fields ks -/
structure ErrC (K : PySem.W.Frag) (mg : Str → Option Value) (c : Str) (C : Addr) (ks : List Str) : Prop where
  gl : mg c = some (.ref C)
  oex : OexC K C
  xf : XfC K C
  cl : (PySem.W.clsIn K C).isSome = true
  ca : PySem.W.findIn K (.ref C) "__class__" = some (some (.builtin "object.__class__"))
  cn : PySem.W.specialIn K (.builtin "object.__class__") "__get__" = some (some (.builtin "getset_descriptor.__get__"))
  ct : PySem.W.takesIn K (.builtin "object.__class__") = some true
  cm : PySem.W.mroIn K C (.type "object") = some true
  no : ∀ f ∈ ks, PySem.W.findIn K (.ref C) f = some none
/-- __init__ with one, two fields -/
def spI1 (K : PySem.W.Frag) (C : Addr) (f : Str) : Sp := fun vs H Q _ => ∃ a y, vs = [.ref a, y] ∧ OexC K C ∧ PySem.W.findIn K (.ref C) f = some none ∧ H a = some (exo a C none) ∧ ∀ dx, H dx = none → dx ≠ a → Q .non (upd (upd H dx (exd dx [(f, y)])) a (exo a C (some dx)))
def spI2 (K : PySem.W.Frag) (C : Addr) (f g : Str) : Sp := fun vs H Q _ => ∃ a y z, vs = [.ref a, y, z] ∧ OexC K C ∧ PySem.W.findIn K (.ref C) f = some none ∧ PySem.W.findIn K (.ref C) g = some none ∧ H a = some (exo a C none) ∧
  ∀ dx, H dx = none → dx ≠ a → Q .non (upd (upd (upd H dx (exd dx [(f, y)])) a (exo a C (some dx))) dx (exd dx [(g, z), (f, y)]))
theorem read_I1 {K : PySem.W.Frag} {C : Addr} {f : Str} {vs : List V} {H : Hp} {Q : VK} {E : XK} {N : List Str} (h : spI1 K C f vs H Q E) (hN : N.length = 2) : (tOst K f (tVar 0) (tVar 1)) { nx := fun _ H' => Q .non H', rt := Q } (L2.start N vs) H := by
  obtain ⟨a, y, rfl, T, hf, ha, q⟩ := h
  refine ⟨y, by simp [L2.start], .ref a, by simp [L2.start], a, C, rfl, T, hf, .inl ⟨ha, fun dx h1 h2 => q dx h1 h2⟩⟩
theorem read_I2 {K : PySem.W.Frag} {C : Addr} {f g : Str} {vs : List V} {H : Hp} {Q : VK} {E : XK} {N : List Str} (h : spI2 K C f g vs H Q E) (hN : N.length = 3) : (tSeq (tOst K f (tVar 0) (tVar 1)) (tOst K g (tVar 0) (tVar 2))) { nx := fun _ H' => Q .non H', rt := Q } (L2.start N vs) H := by
  obtain ⟨a, y, z, rfl, T, hf, hg, ha, q⟩ := h
  refine ⟨y, by simp [L2.start], .ref a, by simp [L2.start], a, C, rfl, T, hf, .inl ⟨ha, fun dx h1 h2 => ?_⟩⟩
  refine ⟨z, by simp [L2.start], .ref a, by simp [L2.start], a, C, rfl, T, hg, .inr ⟨dx, [(f, y)], upd_same, ?_, by simp, q dx h1 h2⟩⟩
  rw [upd_ne h2, upd_same]
/-- raise c(..): the last field first -/
def sRaise (c : Str) (ks : List Str) (a : DenA) : SDen := fun env S => (a env S).lift env fun ds S1 => if ds.length = ks.length then .ex c ((ks.zip ds).reverse) env S1 else .bad
section
variable {X : Cx} {W : WX} {e : Expr} {es : List Expr} {da : DenA} {pos pos2 p : Pos} {c : Str} {C fI : Addr} {k : Nat} {fd : FuncData} {ps : List Str}
theorem del_new {H : Hp} {a d : Addr} {o : HO} (h : H a = none) (hd : d ≠ a) : upd (del H a) d o = upd H d o := by
  funext b
  by_cases hb : b = d
  · subst hb; rw [upd_same, upd_same]
  · rw [upd_ne hb, upd_ne hb]
    by_cases h2 : b = a
    · subst h2; rw [del_same, h]
    · rw [del_ne h2]
/-- the raised error's end -/
theorem raise_end {K : PySem.W.Frag} {mg : Str → Option Value} {σ : L2.St} {ι : Em} {H : Hp} {S : Sto} {env : Env} {fs : List (Str × D)} {Dn : Ends} {us : List V} {a dx : Addr} (p : PostS K mg W ι H (.ex c fs env S) Dn) (s : Sr K H ι S) (er : Er K H ι σ env) (hm : mg c = some (.ref C)) (ha : H a = none) (hd : H dx = none) (hda : dx ≠ a)
    (r : Rps K H ι us (fs.map (·.2))) {gs : List (Str × V)} (hg : gs = (fs.map (·.1)).zip us) : W (.ref C) (some dx) σ (upd (del H a) dx (.xd gs)) := by
  subst hg
  rw [del_new ha hda]
  exact p ι _ σ dx C us (Ext.new hd) (s.new hd) (er.ext (Ext.new hd)) hm upd_same (s.out hd) (r.ext (Ext.new hd))
theorem s_raise1 {f : Str} (T : ErrC X.K X.mg c C [f]) (iC : PySem.W.findIn X.K (.ref C) "__init__" = some (some (.ref fI))) (tI : PySem.W.typeIn X.K (.ref fI) = some (.type "function"))
    (F1 : FnOk X.prog X.w X.K X.mg X.base (L2N.CX X.prog X.w) k fI fd ps (spI1 X.K C f)) (hr : RoomZ (k + 1) X.A) (hb : Binds X.K fd ps []) (tk : L2N.Takes X W) (ha : AA X W (e :: es) da) (hc : X.calm = true := by rfl) (hg : Gl X c := by rfl)
    (hdb : (c == ("__debug__" : Str)) = false := by decide) (he : starEach (e :: es) X.env = (false, eval e X.env) :: starEach es X.env := by rfl) (hpl : (backTo pos (starEach es X.env)).any (·.1) = false := by rfl) :
    SS X W (.Raise (some (.Call (.Name c p) (e :: es) [] pos)) none pos2) (sRaise c [f] da) := PS.imp (L2N.ps_raise hc tk (pmkN_oex T.oex iC tI F1 hr.r hb passN hg T.gl ha hdb he hpl)) fun Dn σ H h => by
  obtain ⟨ι, env, S, s, er, p⟩ := h
  refine ⟨ι, env, S, s, er, (PostS.lift (Rel := Rps X.K) p er).mono ?_⟩
  rintro vs H1 ⟨ι1, ds, S1, e1, s1, r1, p1⟩
  split at p1
  · rename_i hl
    match ds, hl, r1 with
    | [d], _, r1 =>
      obtain ⟨y, rfl, ry⟩ := rps1 r1
      refine ⟨by simp, fun a hna => ⟨a, y, rfl, T.oex, T.no f (by simp), upd_same, fun dx h1 h2 => ⟨rfl, dx, [(f, y)], upd_same, ?_, ?_, ?_⟩⟩⟩
      · rw [upd_ne h2, upd_same]
      · rw [upd_ne h2] at h1; exact h1
      · rw [upd_ne h2] at h1
        have e3 : upd (del (upd (upd (upd H1 a (exo a C none)) dx (exd dx [(f, y)])) a (exo a C (some dx))) a) dx (.xd [(f, y)]) = upd (del H1 a) dx (.xd [(f, y)]) := by
          funext b
          by_cases hb : b = dx
          · subst hb; rw [upd_same, upd_same]
          · rw [upd_ne hb, upd_ne hb]
            by_cases h3 : b = a
            · subst h3; rw [del_same, del_same]
            · rw [del_ne h3, del_ne h3, upd_ne h3, upd_ne hb, upd_ne h3]
        rw [e3]
        exact raise_end p1 s1 (er.ext e1) T.gl hna h1 h2 (.cons ry .nil) rfl
  · exact p1.elim
theorem s_raise2 {f g : Str} (T : ErrC X.K X.mg c C [f, g]) (iC : PySem.W.findIn X.K (.ref C) "__init__" = some (some (.ref fI))) (tI : PySem.W.typeIn X.K (.ref fI) = some (.type "function"))
    (F1 : FnOk X.prog X.w X.K X.mg X.base (L2N.CX X.prog X.w) k fI fd ps (spI2 X.K C f g)) (hr : RoomZ (k + 1) X.A) (hb : Binds X.K fd ps []) (tk : L2N.Takes X W) (ha : AA X W (e :: es) da) (hc : X.calm = true := by rfl) (hg : Gl X c := by rfl)
    (hdb : (c == ("__debug__" : Str)) = false := by decide) (he : starEach (e :: es) X.env = (false, eval e X.env) :: starEach es X.env := by rfl) (hpl : (backTo pos (starEach es X.env)).any (·.1) = false := by rfl) :
    SS X W (.Raise (some (.Call (.Name c p) (e :: es) [] pos)) none pos2) (sRaise c [f, g] da) := PS.imp (L2N.ps_raise hc tk (pmkN_oex T.oex iC tI F1 hr.r hb passN hg T.gl ha hdb he hpl)) fun Dn σ H h => by
  obtain ⟨ι, env, S, s, er, p⟩ := h
  refine ⟨ι, env, S, s, er, (PostS.lift (Rel := Rps X.K) p er).mono ?_⟩
  rintro vs H1 ⟨ι1, ds, S1, e1, s1, r1, p1⟩
  split at p1
  · rename_i hl
    match ds, hl, r1 with
    | [d, d2], _, r1 =>
      obtain ⟨y, z, rfl, ry, rz⟩ := rps2 r1
      refine ⟨by simp, fun a hna => ⟨a, y, z, rfl, T.oex, T.no f (by simp), T.no g (by simp), upd_same, fun dx h1 h2 => ⟨rfl, dx, [(g, z), (f, y)], ?_, upd_same, ?_, ?_⟩⟩⟩
      · rw [upd_ne (Ne.symm h2), upd_same]
      · rw [upd_ne h2] at h1; exact h1
      · rw [upd_ne h2] at h1
        have e3 : upd (del (upd (upd (upd (upd H1 a (exo a C none)) dx (exd dx [(f, y)])) a (exo a C (some dx))) dx (exd dx [(g, z), (f, y)])) a) dx (.xd [(g, z), (f, y)]) = upd (del H1 a) dx (.xd [(g, z), (f, y)]) := by
          funext b
          by_cases hb : b = dx
          · subst hb; rw [upd_same, upd_same]
          · rw [upd_ne hb, upd_ne hb]
            by_cases h3 : b = a
            · subst h3; rw [del_same, del_same]
            · rw [del_ne h3, del_ne h3, upd_ne hb, upd_ne h3, upd_ne hb, upd_ne h3]
        rw [e3]
        exact raise_end p1 s1 (er.ext e1) T.gl hna h1 h2 (.cons rz (.cons ry .nil)) rfl
  · exact p1.elim
end

/-! ### try: .. except c as n: .. -/
open Classical in
noncomputable def collapse (k : Addr → Addr → F) : F := if h : ∃ f, ∀ a d, k a d = f then Classical.choose h else .bad
theorem collapse_const (f : F) : collapse (fun _ _ => f) = f := by
  unfold collapse
  have h : ∃ g : F, ∀ _ _ : Addr, f = g := ⟨f, fun _ _ => rfl⟩
  rw [dif_pos h]
  exact (Classical.choose_spec h 0 0).symm
def endX (i : Nat) (f : F) : F := match f with
  | .nx e S => .nx (e.set i none) S
  | .bk e S => .bk (e.set i none) S
  | .ct e S => .ct (e.set i none) S
  | .rt d S => .rt d S
  | _ => .bad
noncomputable def sTry (c : Str) (i : Nat) (body : SDen) (h : Addr → Addr → SDen) : SDen := fun env S => match body env S with
  | .ex c' fs e S' => if c' = c then collapse fun a dd => endX i (h a dd (e.set i (some (.err a dd (fs.map (·.1)) (fs.map (·.2))))) S') else .bad
  | f => f
def dXf (a dd : Addr) (f : Str) (d : Den) : Den := fun env S => (d env S).bind fun x S1 => match x with
  | .err a' dd' ks ds => if a' = a ∧ dd' = dd then (match (ks.zip ds).lookup f with
    | some v => .ok v S1
    | none => .bad) else .bad
  | _ => .bad
def dXis (a dd : Addr) (b : Bool) (d : Den) : Den := fun env S => (d env S).bind fun x S1 => match x with
  | .err a' dd' _ _ => if a' = a ∧ dd' = dd then .ok (.bl b) S1 else .bad
  | _ => .bad
section
variable {K : PySem.W.Frag} {mg : Str → Option Value} {W : WX} {ι : Em} {H : Hp} {Dn : Ends}
theorem PostS.collapse {k : Addr → Addr → F} (h : PostS K mg W ι H (Z.collapse k) Dn) (a d : Addr) : PostS K mg W ι H (k a d) Dn := by
  unfold Z.collapse at h
  split at h
  · rename_i g
    rw [Classical.choose_spec g a d]; exact h
  · exact h.elim
theorem PostS.endX {W' : WX} {i : Nat} {f : F} (h : PostS K mg W ι H (Z.endX i f) Dn) :
    PostS K mg W' ι H f { nx := fun σ' H' => Dn.nx (σ'.set i none) H', rt := Dn.rt, bk := fun σ' H' => Dn.bk (σ'.set i none) H', ct := fun σ' H' => Dn.ct (σ'.set i none) H' } := by
  cases f with
  | nx e S' => exact fun ι2 H2 σ' e2 s2 r2 => h ι2 H2 _ e2 s2 r2.unset
  | bk e S' => exact fun ι2 H2 σ' e2 s2 r2 => h ι2 H2 _ e2 s2 r2.unset
  | ct e S' => exact fun ι2 H2 σ' e2 s2 r2 => h ι2 H2 _ e2 s2 r2.unset
  | rt d S' => exact h
  | ex c fs e S' => exact h.elim
  | bad => exact h.elim
theorem look_rp : ∀ {ks : List Str} {ds : List D} {us : List V} {f : Str} {d : D}, Rps K H ι us ds → (ks.zip ds).lookup f = some d → ∃ v, (ks.zip us).lookup f = some v ∧ Rp K H ι v d
  | [], _, _, _, _, _, e => by simp at e
  | k :: ks, [], _, _, _, _, e => by simp at e
  | k :: ks, d :: ds, _, f, d', r, e => by
    cases r with
    | cons r rs =>
      rw [List.zip_cons_cons, List.lookup_cons] at e
      rw [List.zip_cons_cons, List.lookup_cons]
      by_cases hf : (f == k) = true
      · rw [hf] at e ⊢; cases e; exact ⟨_, rfl, r⟩
      · have hf' : (f == k) = false := by simpa using hf
        rw [hf'] at e ⊢; exact look_rp rs e
end
section
variable {X : Cx} {W : WX} {c n : Str} {C : Addr} {i : Nat} {ks : List Str} {body suite : List Stmt} {b₀ : Stmt} {np pos pos' : Pos} {db : SDen} {h : Addr → Addr → SDen}
theorem s_try (hN : X.N.Nodup) (T : ErrC X.K X.mg c C ks) (exm : PySem.W.exmOne X.K (.ref C) (.ref C) = some true) (tk : L2N.Takes X W)
    (hb : ∀ (W' : WX) (pn : List (Addr × Obj)) (xe : Value → Shared → Prop), L2N.Takes (X.tr pn xe) W' → PassesOwn (model X.prog X.w) X.A X.env xe → SSs (X.tr pn xe) W' body db)
    (hsu : ∀ (a : Addr) (oe : Obj) (dd : Addr) (pn : List (Addr × Obj)), Zc (.ref C) (some dd) oe → (∃ vs, oe.data = .fields vs) → L2H.HotC (X.suite a ((a, oe) :: pn)) → PSs (X.suite a ((a, oe) :: pn)) (b₀ :: suite) (rdS X.K X.mg W0 (h a dd)))
    (hs : X.stack = X.env :: X.outer := by rfl) (hf : X.env.frame = some X.env.locals := by rfl) (hi : X.N[i]? = some n := by rfl) (hln : X.env.kindOf n = some .local := by rfl) (hg : Gl X c := by rfl) (hdb : (c == ("__debug__" : Str)) = false := by decide) :
    SS X W (.Try body [.ExceptHandler (some (.Name c np)) (some n) (b₀ :: suite) pos'] [] [] pos) (sTry c i db h) := by
  have hz := L2N.ps_try_as (X := X) (x := c) (n := n) (c := .ref C) (i := i) (body := body) (suite := suite) (b₀ := b₀) (np := np) (pos := pos) (pos' := pos') (tb := fun W' => rdS X.K X.mg W' db)
    (ts := fun a cls d => fun Dn σ H => ∃ dd, cls = .ref C ∧ d = some dd ∧ rdS X.K X.mg W0 (h a dd) Dn σ H) (Wout := W) hs hf hN hi hln ⟨hg, hdb, .inl T.gl⟩ tk (fun W' pn xe t p => hb W' pn xe t p)
    (fun a oe cls d pn z v => ⟨fun pins s σ H Dn I q => by
      obtain ⟨dd, rfl, rfl, q⟩ := q
      exact (hsu a oe dd pn z.zc v ⟨(a, oe), ⟨rfl, v.choose, v.choose_spec, z.2.2 _ v.choose_spec⟩, List.mem_cons_self⟩).run pins s σ H Dn I q⟩)
  refine PS.imp hz fun Dn σ H q => ?_
  obtain ⟨ι, env, S, s, er, p⟩ := q
  refine ⟨ι, env, S, s, er, ?_⟩
  unfold sTry at p
  cases q : db env S with
  | ex c' fs e S' =>
    rw [q] at p
    simp only at p
    intro ι' H' σ' dd C' us e1 s1 er1 hm hd hn rus
    split at p
    · rename_i ec
      subst ec
      have eC : C' = C := by rw [T.gl] at hm; cases hm; rfl
      subst eC
      refine ⟨true, exm, fun _ a ha => ⟨dd, rfl, rfl, ι', _, S', s1, er1.set (.err (a := a) hn hd rus), ?_⟩, fun z => by cases z⟩
      exact ((p.collapse a dd).endX).ext e1 s1
    · exact p.elim
  | nx _ _ => rw [q] at p; exact p
  | bk _ _ => rw [q] at p; exact p
  | ct _ _ => rw [q] at p; exact p
  | rt _ _ => rw [q] at p; exact p
  | bad => rw [q] at p; exact p
theorem e_xf {a dd : Addr} {oe : Obj} {pn : List (Addr × Obj)} {f : Str} {e : Expr} {d : Den} (T : ErrC X.K X.mg c C ks) (hfk : f ∈ ks) (hz : Zc (.ref C) (some dd) oe) (hv : ∃ vs, oe.data = .fields vs) (he : PE (X.suite a ((a, oe) :: pn)) e (rd X.K X.mg W0 d))
    (hb : attributeBase e f X.env (eval e X.env) = eval e X.env := by rfl) : PE (X.suite a ((a, oe) :: pn)) (.Attribute e f pos) (rd X.K X.mg W0 (dXf a dd f d)) := PE.imp (pe_xf T.xf (T.no f hfk) hz hv he hb) fun σ H Q h => by
  obtain ⟨ι, env, S, s, er, p⟩ := h
  refine ⟨ι, env, S, s, er, (Post.bind (Rel' := Rp X.K) p).mono ?_⟩
  rintro x H1 ⟨ι1, dx, S1, e1, s1, r1, p1⟩
  split at p1
  · rename_i a' dd' ks' ds
    split at p1
    · rename_i ha
      obtain ⟨rfl, rfl⟩ := ha
      cases r1 with
      | err hn hd rs =>
        split at p1
        · rename_i v ev
          obtain ⟨u, eu, ru⟩ := look_rp rs ev
          exact ⟨rfl, rfl, _, _, u, rfl, hd, eu, p1.ret s1 ru⟩
        · exact p1.elim
    · exact p1.elim
  · exact p1.elim
theorem kit_err {x : Addr} {ox : Obj} {od : Option Obj} {K : PySem.W.Frag} {mg : Str → Option Value} (T : ErrC K mg c C ks) : PySem.W.KitX K (.ref x) (.ref C) (fun h => PySem.W.InstAt h x ox C od) := PySem.W.kitx_exc T.cl T.xf.ga T.xf.gg T.xf.exC T.ca T.cn T.ct T.cm
def rIsX (K : PySem.W.Frag) (C a dd : Addr) : List V → Hp → VK → Prop := fun xs H Q => ∃ (v : V) (cv : Value) (b : Bool) (gs : List (Str × V)), xs = [.ref a, v] ∧ (∀ u, RelV v u → u = cv) ∧ PySem.W.kitOne K (.ref C) cv = some b ∧ H dd = some (.xd gs) ∧ Q (.bl b) H
theorem call_isX {a dd : Addr} {oe : Obj} {pn : List (Addr × Obj)} (T : ErrC X.K X.mg c C ks) (hz : Zc (.ref C) (some dd) oe) (hf : ∃ vs, oe.data = .fields vs) : CallR (X.suite a ((a, oe) :: pn)) (.builtin "isinstance") (rIsX X.K C a dd) := by
  rintro pins s σ H _ us Q I r ⟨v, cv, b, gs, rfl, hcv, hk, hd, q⟩
  obtain ⟨u1, u2, rfl, r1, r2⟩ := vals2 r
  cases (show u1 = Value.ref a from r1)
  cases hcv _ r2
  have hat := (I.pin (a, oe) (List.mem_append.mpr (.inl List.mem_cons_self))).1
  obtain ⟨vs, hvs⟩ := hf
  have hx : ObjOk X.prog X.w H s.heap dd (.xd gs) := I.hok dd _ hd
  obtain ⟨mA, hns, hr⟩ := hx
  obtain ⟨od, ho, hl⟩ := lookIn_ns hns
  have J : PySem.W.InstAt s.heap a oe C (some od) := ⟨hat, hz.1, by unfold PySem.W.notCls; rw [hvs] <;> rfl, (by rw [hz.2]; exact ho)⟩
  exact PySem.W.kia_one (kit_err T) I.kIn J hk (fun z => nomatch z) fun tk' => ⟨.bl b, H, I.kept (t' := tk') (fun _ _ z => z), rfl, q⟩
theorem rd_isX {K : PySem.W.Frag} {mg : Str → Option Value} {a dd : Addr} {b : Bool} {d : Den} {v : V} {cv : Value} (hcv : ∀ u, RelV v u → u = cv) (hk : PySem.W.kitOne K (.ref C) cv = some b) {σ : L2.St} {H : Hp} {Q : VK} (q : rd K mg W0 (dXis a dd b d) σ H Q) :
    tCB (rIsX K C a dd) (tCons (rd K mg W0 d) (tCons (tC v) tNil)) σ H Q := by
  obtain ⟨ι, env, S, s, er, p⟩ := q
  refine ⟨ι, env, S, s, er, (Post.bind (Rel' := Rp K) p).mono ?_⟩
  rintro x H1 ⟨ι1, dx, S1, e1, s1, r1, p1⟩
  split at p1
  · split at p1
    · rename_i ha
      obtain ⟨rfl, rfl⟩ := ha
      cases r1 with
      | err hn hd rs => exact ⟨v, cv, b, _, rfl, hcv, hk, hd, p1.ret s1 (.bl _)⟩
    · exact p1.elim
  · exact p1.elim
/-- isinstance(e, C2), C2 an error class of the program's | a built-in one -/
theorem e_isX {a dd C2 : Addr} {oe : Obj} {pn : List (Addr × Obj)} {e : Expr} {d : Den} {x : Str} {p q : Pos} {b : Bool} (T : ErrC X.K X.mg c C ks) (hz : Zc (.ref C) (some dd) oe) (hf : ∃ vs, oe.data = .fields vs) (hm : X.mg "isinstance" = none) (hx : X.mg x = some (.ref C2)) (hk : PySem.W.kitOne X.K (.ref C) (.ref C2) = some b)
    (he : PE (X.suite a ((a, oe) :: pn)) e (rd X.K X.mg W0 d)) (hg : Gl X "isinstance" := by rfl) (hg2 : Gl X x := by rfl) (hd : (x == ("__debug__" : Str)) = false := by decide)
    (hs : starEach [e, .Name x q] X.env = (false, eval e X.env) :: starEach [.Name x q] X.env := by rfl) (hs2 : starEach [.Name x q] X.env = (false, eval (.Name x q) X.env) :: starEach [] X.env := by rfl) (hpl : (backTo pos (starEach [.Name x q] X.env)).any (·.1) = false := by rfl) :
    PE (X.suite a ((a, oe) :: pn)) (.Call (.Name "isinstance" p) [e, .Name x q] [] pos) (rd X.K X.mg W0 (dXis a dd b d)) :=
  PE.imp (pe_callB (X := X.suite a ((a, oe) :: pn)) (call_isX T hz hf) hg hm (by decide +kernel) (pa_cons he (pa_cons (pe_glob (v := .ref C2) hg2 hx rfl hd) pa_nil hs2) hs) (by decide) (by decide) hs hpl) fun σ H Q z => rd_isX (v := .ref C2) (cv := .ref C2) (fun _ z => z) hk z
theorem e_isXB {a dd : Addr} {T' : String} {oe : Obj} {pn : List (Addr × Obj)} {e : Expr} {d : Den} {x : Str} {p q : Pos} {b : Bool} (T : ErrC X.K X.mg c C ks) (hz : Zc (.ref C) (some dd) oe) (hf : ∃ vs, oe.data = .fields vs) (hm : X.mg "isinstance" = none) (hx : X.mg x = none) (hv : bootBuiltins x = some (.type T')) (hk : PySem.W.kitOne X.K (.ref C) (.type T') = some b)
    (he : PE (X.suite a ((a, oe) :: pn)) e (rd X.K X.mg W0 d)) (hg : Gl X "isinstance" := by rfl) (hg2 : Gl X x := by rfl) (hn : x ≠ "__name__" := by decide) (hd : (x == ("__debug__" : Str)) = false := by decide)
    (hs : starEach [e, .Name x q] X.env = (false, eval e X.env) :: starEach [.Name x q] X.env := by rfl) (hs2 : starEach [.Name x q] X.env = (false, eval (.Name x q) X.env) :: starEach [] X.env := by rfl) (hpl : (backTo pos (starEach [.Name x q] X.env)).any (·.1) = false := by rfl) :
    PE (X.suite a ((a, oe) :: pn)) (.Call (.Name "isinstance" p) [e, .Name x q] [] pos) (rd X.K X.mg W0 (dXis a dd b d)) :=
  PE.imp (pe_callB (X := X.suite a ((a, oe) :: pn)) (call_isX T hz hf) hg hm (by decide +kernel) (pa_cons he (pa_cons (pe_bltn (v := .ty T') hg2 hx hv rfl hn hd) pa_nil hs2) hs) (by decide) (by decide) hs hpl) fun σ H Q z => rd_isX (v := .ty T') (cv := .type T') (fun _ z => z) hk z
end
end
end Z
end

section
set_option Elab.async false
set_option linter.all false
set_option maxRecDepth 100000
set_option maxHeartbeats 1000000
namespace Z
noncomputable section
open PySem PySem.Spec PyProof.Rows L2

/-! ### defs that are called by place alone (a star parameter) -/
def spOfR (K : PySem.W.Frag) (mg : Str → Option Value) (f : FD) : Sp := fun vs H Q E => ∃ ι ds S, Sr K H ι S ∧ Rps K H ι vs ds ∧ Post K mg (Rp K) (fun c d _ H => E c d H) [] ι H (f ds S) Q
abbrev FnY (P : Program) (w : World) (K : PySem.W.Frag) (mg : Str → Option Value) (base : Heap) (k : Nat) (f : Addr) (F : FD) : Prop :=
  ∀ (A : Around) (outer : List PySem.Env) (s : Shared) (H : Hp) (us : List Value) (vs : List V) (Q : VK) (E : XK), RoomZ k A → Env0 P w K mg base A outer s H → Vals vs us → spOfR K mg F vs H Q E → codeAny (model P w) A (.call (.ref f) ⟨us, []⟩) (CR (L2N.CX P w) outer P w H s Q E) s
def starF (n : Nat) (F : FD) : FD := fun ds S => if n ≤ ds.length ∧ Fit ds.length then F (ds.take n ++ [.tup (ds.drop n)]) S else .bad
section
variable {P : Program} {w : World} {K : PySem.W.Frag} {mg : Str → Option Value} {base : Heap}
theorem ub_un {fs : List Addr} {H H2 H' : Hp} {g g2 B g' : Heap} (un : Un fs [] H H2 g g2) (kp : ∀ b o, g.get? b = some o → g2.get? b = some o) (ub : UB fs H2 H' g2 B g') : UB fs H H' g B g' where
  keep b o q n hb :=
    ub.keep b o (kp b o q) (un.free b o q n List.not_mem_nil) hb
  slot b o q hb := ub.slot b o (kp b o q) hb
  free b o q n :=
    ub.free b o (kp b o q) (un.free b o q n List.not_mem_nil)
  there b o q hb := ub.there b o (kp b o q) hb
  tups b xs q := ub.tups b xs (un.tups b xs q)
  frzs b o xs q := ub.frzs b o xs (un.frzs b o xs q)
  tbls b ps q := by
    obtain ⟨n1, h1⟩ := un.tbls b ps q
    obtain ⟨n2, h2⟩ := ub.tbls b _ h1
    refine ⟨n1 ++ n2, ?_⟩
    rw [h2, Array.append_assoc]
theorem cxUpN {P : Program} {w : World} : StX.CXUp (L2N.CX P w) := fun outer s H s2 H2 E e s' un kp ho z => by
  obtain ⟨a, B, H', cls, d, ea, fl, hok, ub, na, os, ag, he⟩ := z
  exact ⟨a, B, H', cls, d, ea, fl, hok, ub_un un kp ub, na, os.trans ho, ag, he⟩
theorem fn_finY {F : SDen} {N : List Str} {n : Nat} {vs : List V} {H : Hp} {Q : VK} {E : XK} (hN : n ≤ N.length) (h : spOf K mg n (fnF N.length F) vs H Q E) : rdS K mg (wE E) F { nx := fun _ H' => Q .non H', rt := Q } (L2.start N vs) H := by
  obtain ⟨hl, ι, ds, S0, sr, r, p⟩ := h
  refine ⟨ι, _, S0, sr, er_start r (by rw [hl]; exact hN), ?_⟩
  unfold fnF at p
  show PostS K mg (wE E) ι H (F (ds.map some ++ List.replicate (N.length - ds.length) none) S0) _
  cases q : F (ds.map some ++ List.replicate (N.length - ds.length) none) S0 with
  | nx e S' => rw [q] at p; exact fun ι' H' σ' e1 s1 _ => p ι' H' .non e1 s1 .non
  | rt d S' => rw [q] at p; exact p
  | ex c fs e S' => rw [q] at p; exact fun ι' H' σ' dd C gs e1 s1 _ => p ι' H' dd C gs e1 s1
  | bk e S' => rw [q] at p; exact p.elim
  | ct e S' => rw [q] at p; exact p.elim
  | bad => rw [q] at p; exact p.elim
theorem fn_okY {x qual : Str} {st : Stmt} {f : Addr} {fd : FuncData} {N ps : List Str} {pv : Str} {k : Nat} {body : SDen} (F : Fun K x qual st f fd) (S : FnScope N (ps ++ [pv]) (defScope st)) (hN : ps.length + 1 ≤ N.length)
    (hbd : ∀ (kV doc pm : Value) (an : Option Addr) (cdv ct : Value) (us rest : List Value), us.length = ps.length → bindArgs (PySem.W.fnOf x qual (defArgs st) (defBody st) (defScope st) .none kV doc pm an cdv ct) ⟨us ++ rest, []⟩ = (newTuple rest >>= fun t => pure (ps.zip us ++ [(pv, t)])))
    (hb : ∀ (cdv : Value) (A : Around) (outer : List PySem.Env) (s : Shared) (H : Hp) (E : XK), RoomZ k (A.deeper (envOfC qual (defScope st) s.heap.objs.size f cdv)) →
      L2N.Takes (cxOf (L2N.CX P w) P w K mg base N qual (defScope st) f cdv A outer s H E) (wE E) → SSs (cxOf (L2N.CX P w) P w K mg base N qual (defScope st) f cdv A outer s H E) (wE E) (defBody st) body) :
    FnY P w K mg base (k + 1) f (starF ps.length (fnF N.length body)) := by
  obtain ⟨oc, od, kV, doc, pm, an, cdv, ct, osl, rfl, lk, hcd⟩ := F.ex
  intro A outer s H us vs Q E hr e0 rv hsp
  obtain ⟨ι, ds, S0, sr, r, p⟩ := hsp
  unfold starF at p
  split at p
  · rename_i hl
    have lu : us.length = ds.length := by rw [← rv.length, r.length]
    have rw1 : Vals (vs.take ps.length) (us.take ps.length) := rv.take _
    have rw2 : Vals (vs.drop ps.length) (us.drop ps.length) := rv.drop _
    have hz : (us.drop ps.length).length ≤ sizeLine := by rw [List.length_drop, lu]; have := hl.2; unfold Fit at this; omega
    have hn : H s.heap.objs.size = none := e0.hok.fresh (Nat.le_refl _)
    have l1 : (us.take ps.length).length = ps.length := by rw [List.length_take, lu]; omega
    refine StX.run_bnd (args := ⟨us, []⟩) lk hcd S hr.r e0 (G := fun xs H2 => ∃ p, H p = none ∧ xs = vs.take ps.length ++ [V.ref p] ∧ H2 = upd H p (.tup (vs.drop ps.length))) (fun A' Ex Q' h => ?_) fun s2 H2 xs ⟨pa, hp, ex, eH⟩ hr' => ?_
    · have es : us = us.take ps.length ++ us.drop ps.length := (List.take_append_drop _ _).symm
      rw [es, hbd _ _ _ _ _ _ _ _ l1]
      refine wpAny_bind (wpAny_newTuple (wpAny_pure ?_) hz)
      have new : ObjOk P w (upd H s.heap.objs.size (.tup (vs.drop ps.length))) (s.heap.push ({ cls := .type "tuple", data := .seq (us.drop ps.length).toArray } : Obj)) s.heap.objs.size (.tup (vs.drop ps.length)) :=
        ⟨by rw [rw2.length]; exact hz, us.drop ps.length, rw2, ⟨_, Heap.get?_push_size _ rfl, rfl, _, rfl⟩⟩
      have un := StX.un_laid (fs := frs outer) (s := s) (o := ({ cls := .type "tuple", data := .seq (us.drop ps.length).toArray } : Obj)) (u := .tup (vs.drop ps.length)) hn
      have z := h _ _ (vs.take ps.length ++ [V.ref s.heap.objs.size]) (us.take ps.length ++ [Value.ref s.heap.objs.size]) (StX.env0_laid e0 new) un rfl (fun e s' => cxUpN outer s H _ _ E e s' un (fun b o q => Heap.get?_push_of_some _ q) rfl) (rw1.append (.cons rfl .nil))
        (by rw [List.length_append, List.length_append, rw1.length, l1]; rfl) ⟨_, hn, rfl, rfl⟩
      rw [List.zip_append l1.symm] at z
      exact z
    · subst ex; subst eH
      refine ⟨_, hb cdv A outer s2 _ E ⟨hr', hr.gd⟩ (L2N.takes_of rfl rfl rfl rfl), fn_finY (n := ps.length + 1) (F := body) hN ⟨?_, ι, _, S0, sr.new hp, ((r.take _).ext (Ext.new hp)).append (.cons (.tup (sr.out hp) upd_same ((r.drop ps.length).ext (Ext.new hp))) .nil), p.ext (Ext.new hp) (sr.new hp)⟩⟩
      rw [List.length_append, List.length_take, r.length]; simp; omega
  · exact p.elim
end
def dCallY (F : FD) (a : DenA) : Den := fun env S => (a env S).bind F
section
variable {X : Cx} {W : WX} {k : Nat} {f : Addr} {F : FD} {x : Str} {p pos : Pos} {e : Expr} {es : List Expr} {da : DenA}
theorem run_Y {pins : List (Addr × Obj)} {σ : L2.St} {H : Hp} {s : Shared} {Q : VK} {us : List Value} {vs : List V} (Fk : FnY X.prog X.w X.K X.mg X.base k f F) (hr : RoomZ k X.A) (tk : L2N.Takes X W) (I : Inv X pins σ H s) (r : Vals vs us) (h : spOfR X.K X.mg F vs H Q (WE W σ)) :
    wpAny (model X.prog X.w) X.A (call (.ref f) us) (EP X pins σ Q) X.xe s := by
  refine wpAny_call (codeAny_mono (Fk X.A X.stack s H us vs Q (WE W σ) hr I.env0 r h) fun q s' hq => ?_)
  match q, hq with
  | .error e, hq => exact L2N.passAt tk σ pins H s e s' I hq
  | .ok (.ret u), hq => exact I.after hq
/-- f(e, ..) -/
theorem e_callY (Fk : FnY X.prog X.w X.K X.mg X.base k f F) (hr : RoomZ k X.A) (hm : X.mg x = some (.ref f)) (hk : PySem.W.keepIn X.K (.ref f) = true) (tk : L2N.Takes X W) (ha : AA X W (e :: es) da) (hg : Gl X x := by rfl) (hd : (x == ("__debug__" : Str)) = false := by decide)
    (he : starEach (e :: es) X.env = (false, eval e X.env) :: starEach es X.env := by rfl) (hpl : (backTo pos (starEach es X.env)).any (·.1) = false := by rfl) : EE X W (.Call (.Name x p) (e :: es) [] pos) (dCallY F da) := by
  refine ⟨fun pins s σ H Q I h => wpAny_Call_Name_kw (ld_glob I hg hm ?_ hd)⟩
  obtain ⟨ι, env, S, s0, er, q⟩ := h
  have ha' := ha.run pos pins s σ H (fun vs H1 => spOfR X.K X.mg F vs H1 Q (WE W σ)) I ⟨ι, env, S, s0, er, (Post.bind (Rel' := Rps X.K) q).mono (by
    rintro xs H1 ⟨ι1, ds, S1, e1, s1, r1, p1⟩
    exact ⟨ι1, ds, S1, s1, r1, Post.wish (E := WE W σ) p1 fun _ _ _ h => h⟩)⟩
  exact PySem.W.callWith_K (h₀ := X.base) I.ok.mod.kin hk (thn ha' fun us s1 ⟨vs, H1, I1, r, q⟩ => ⟨I1.kIn, run_Y Fk hr tk I1 r q⟩) he hpl
/-- f() -/
theorem e_callY0 (Fk : FnY X.prog X.w X.K X.mg X.base k f F) (hr : RoomZ k X.A) (hm : X.mg x = some (.ref f)) (hk : PySem.W.keepIn X.K (.ref f) = true) (tk : L2N.Takes X W) (hg : Gl X x := by rfl) (hd : (x == ("__debug__" : Str)) = false := by decide) :
    EE X W (.Call (.Name x p) [] [] pos) (dCallY F aNil) := by
  refine ⟨fun pins s σ H Q I h => wpAny_Call_Name_kw (ld_glob I hg hm ?_ hd)⟩
  obtain ⟨ι, env, S, s0, er, q⟩ := h
  exact PySem.W.callWith_K0 I.kIn hk (run_Y (us := []) Fk hr tk I .nil ⟨ι, [], S, s0, .nil, Post.wish (E := WE W σ) q fun _ _ _ h => h⟩)
end

/-! ### two targets at once -/
def sPar (i j : Nat) (a : DenA) : SDen := fun env S => (a env S).lift env fun ds S1 => match ds with
  | [x, y] => .nx ((env.set i (some x)).set j (some y)) S1
  | _ => .bad
section
variable {X : Cx} {W : WX} {a b : Expr} {da : DenA} {x y : Str} {i j : Nat} {px py pt pt2 pos : Pos} {kt k2 : Nat}
theorem rd_par {K : PySem.W.Frag} {mg : Str → Option Value} {Dn : Ends} {σ : L2.St} {H : Hp} (h : rdS K mg W (sPar i j da) Dn σ H) : tPar i j (rdA K mg W da) Dn σ H := by
  obtain ⟨ι, env, S, s, er, p⟩ := h
  refine ⟨ι, env, S, s, er, (PostS.lift (Rel := Rps K) p er).mono ?_⟩
  rintro vs H1 ⟨ι1, ds, S1, e1, s1, r1, p1⟩
  split at p1
  · obtain ⟨v, w, rfl, r, r2⟩ := rps2 r1
    exact ⟨v, w, rfl, p1.nx s1 (((er.ext e1).set r).set r2)⟩
  · exact p1.elim
end

/-! ### the law's end -/
/-- what is wanted of the law's def: called upon the script it hands back True -/
def spLaw (K : PySem.W.Frag) : Sp := fun vs H Q _ => ∃ (a : Addr) (ns : List Int), vs = [.ref a] ∧ ns.length ≤ 63 ∧ (∀ z ∈ ns, Builtin.Int.intBits z ≤ 1048576) ∧ (∀ P ∈ tabs, H P = some (.tbl #[])) ∧ ((∃ o, H a = some (.frz o (.lst (ns.map V.int)))) ∨ StL K a (ns.map V.int)) ∧ ∀ H', Q (.bl true) H'
def Holds (F : FD) : Prop := ∀ ns : List Int, ns.length ≤ 63 → (∀ z ∈ ns, Builtin.Int.intBits z ≤ 1048576) → ∃ S', F [.frz (ns.map D.int)] [] = .ok (.bl true) S'
theorem law_sp {K : PySem.W.Frag} {mg : Str → Option Value} {F : FD} (hF : Holds F) (vs : List V) (H : Hp) (Q : VK) (E : XK) (h : spLaw K vs H Q E) : spOf K mg 1 F vs H Q E := by
  obtain ⟨a, ns, rfl, hl, hb, hT, hS, q⟩ := h
  obtain ⟨S', e⟩ := hF ns hl hb
  have rs : ∀ ns : List Int, Rps K H ⟨[], []⟩ (ns.map V.int) (ns.map D.int) := fun ns => by
    induction ns with
    | nil => exact .nil
    | cons n ns ih => exact .cons (.int n) ih
  have nh : ∀ b, ¬ (⟨[], []⟩ : Em).has b := fun b z => by rcases z with z | z <;> cases z
  refine ⟨rfl, ⟨[], []⟩, [.frz (ns.map D.int)], [], ⟨rfl, List.nodup_nil, (fun b hb => nomatch hb), (fun n a c h => nomatch h), fun P hP => ⟨⟨#[], hT P hP, trivial⟩, nh P⟩⟩, .cons ?_ .nil, ?_⟩
  · rcases hS with ⟨o, h⟩ | h
    · exact .frz (nh _) h (rs ns)
    · exact .frzK h (rs ns)
  · rw [e]
    intro ι' H' v _ _ r
    cases r
    exact q H'
end
end Z
end

section
set_option Elab.async false
set_option linter.all false
set_option maxRecDepth 100000
set_option maxHeartbeats 1000000
/-! the law's call, from a promise where nothing is being shown; with tables of code objects -/
namespace Z
open PySem PySem.Spec PyProof.Rows L2
/-- at the law's call: the tables, and the script where it is none of the written objects -/
def H0 (ts : List Addr) (a : Addr) (own : Bool) (o : HO) : Hp := fun b => if b ∈ ts then some (.tbl #[]) else if b = a ∧ own = true then some o else none
section
variable {ts : List Addr} {a b : Addr} {own : Bool} {o u : HO}
theorem H0_tab (h : b ∈ ts) : H0 ts a own o b = some (.tbl #[]) := if_pos h
theorem H0_own (h : a ∉ ts) (ho : own = true) : H0 ts a own o a = some o := by unfold H0; rw [if_neg h, if_pos ⟨rfl, ho⟩]
theorem H0_none (h : b ∉ ts) (h2 : b = a → own = false) : H0 ts a own o b = none := by
  unfold H0
  rw [if_neg h, if_neg]
  rintro ⟨e, w⟩
  rw [h2 e] at w; cases w
theorem H0_inv (h : H0 ts a own o b = some u) : (b ∈ ts ∧ u = .tbl #[]) ∨ (b ∉ ts ∧ b = a ∧ own = true ∧ u = o) := by
  unfold H0 at h
  split at h
  · cases h; exact .inl ⟨by assumption, rfl⟩
  · split at h
    · rename_i h1 h2
      cases h; exact .inr ⟨h1, h2.1, h2.2, rfl⟩
    · cases h
end
theorem law_callG {P : Program} {w : World} {K : PySem.W.Frag} {mg mb : Str → Option Value} {k : Nat} {fa a : Addr} {cs : List (Addr × Addr)} {fd : FuncData} {s₁ : Shared} {vs : List Value} {ns : List Int}
    (KX : K.In s₁.heap) (hns : s₁.heap.Ns mainGlobals mg) (hb : s₁.heap.Ns builtinsNs mb) (hbb : ∀ x : Str, x ≠ "__name__" → mb x = bootBuiltins x) (hlim : s₁.heap.NoLimit) (hg : s₁.gens = #[])
    (hT : ∀ p ∈ cs, s₁.heap.get? p.2 = some { cls := .none, data := .fields #[] }) (nT : ∀ p ∈ cs, K.lookup p.2 = none) (C : ∀ p ∈ cs, PySem.W.codeHdIn K p.1 p.2 = true) (hts : ∀ Pt ∈ tabs, ∃ p ∈ cs, p.2 = Pt)
    (hbm : ∃ (bm : Addr) (ob : Obj), mg "__builtins__" = some (.ref bm) ∧ bm ≠ builtinsNs ∧ s₁.heap.get? bm = some ob ∧ ob.cls = .type "module" ∧ ob.dict = some builtinsNs ∧ ob.data = .plain)
    (ha : s₁.heap.get? a = some { cls := .type "list", data := .seq vs.toArray }) (hi : IntsAre vs ns) (hl : ns.length ≤ 63) (hbits : ∀ z ∈ ns, Builtin.Int.intBits z ≤ 1048576) (hr : Room k callerA)
    (F : ∀ base : Heap, K.In base → base.Ns mainGlobals mg → (∀ p ∈ cs, GxR.TabB base mg p.1 p.2) → FnG P w K mg base (L2N.CX P w) k fa fd ["script"] (spLaw K)) (hbind : ∀ (s : Shared) (u : Value), BindsTo s fd ⟨[u], []⟩ [("script", u)]) :
    codeAny (model P w) callerA (.call (.ref fa) ⟨[.ref a], []⟩) (fun r s' => r = .ok (.ret (.bool true)) ∧ OldK s₁.heap s'.heap ∧ s'.os = s₁.os ∧ AllBare s'.gens) s₁ := by
  have rv := vals_ints hi
  have len := hi.length
  have big : ns.length ≤ sizeLine := Nat.le_trans hl (by decide)
  generalize hts' : cs.map (·.2) = ts
  have tabAt : ∀ b ∈ ts, s₁.heap.get? b = some { cls := .none, data := .fields #[] } := by
    rw [← hts']
    rintro b hb'
    obtain ⟨p, hp, rfl⟩ := List.mem_map.mp hb'
    exact hT p hp
  have tabK : ∀ b ∈ ts, K.lookup b = none := by
    rw [← hts']
    rintro b hb'
    obtain ⟨p, hp, rfl⟩ := List.mem_map.mp hb'
    exact nT p hp
  have aT : a ∉ ts := fun z => by
    have q := tabAt a z
    rw [ha] at q
    cases q
  generalize ho : ({ cls := .type "list", data := .seq vs.toArray } : Obj) = ob at ha
  generalize how : (K.lookup a).isNone = own
  generalize hH : H0 ts a own (.frz ob (.lst (ns.map V.int))) = H
  have out : ∀ {b : Addr} {o : Obj}, s₁.heap.get? b = some o → o.data ≠ .fields #[] → b ≠ a → H b = none := fun {b o} e h1 h2 => by
    rw [← hH]
    refine H0_none (fun z => ?_) fun z => absurd z h2
    have q := tabAt b z
    rw [e] at q; cases q
    exact h1 rfl
  have dictOut : ∀ {b : Addr} {o : Obj} {es : Array DictEntry} {ep : Nat}, s₁.heap.get? b = some o → o.data = .dict es ep → H b = none := fun {b o es ep} e d => by
    refine out e (by rw [d]; simp) fun z => ?_
    rw [z, ha] at e; cases e
    rw [← ho] at d; cases d
  have toBase : ∀ {b : Addr} {o : Obj}, s₁.heap.get? b = some o → H b = none → (hidT s₁.heap H).get? b = some o := fun e n => hidT_get e n
  have nsB : ∀ {b : Addr} {m : Str → Option Value}, s₁.heap.Ns b m → (hidT s₁.heap H).Ns b m := fun {b m} ⟨o, es, ep, e, d, r⟩ => ⟨o, es, ep, toBase e (dictOut e d), d, r⟩
  have kB : K.In (hidT s₁.heap H) := fun b o e => toBase (KX b o e) (by
    rw [← hH]
    refine H0_none (fun z => by rw [tabK b z] at e; cases e) fun z => ?_
    rw [← how, ← z, e]; rfl)
  have tb : ∀ p ∈ cs, GxR.TabB (hidT s₁.heap H) mg p.1 p.2 := fun p hp => by
    obtain ⟨bm, om, b1, b2, b3, b4, b5, b6⟩ := hbm
    have nD : ∀ {b : Addr} {m : Str → Option Value}, s₁.heap.Ns b m → ∀ {o : Obj}, s₁.heap.get? b = some o → (∀ es ep, o.data ≠ .dict es ep) → False := fun {b m} ⟨o', es, ep, e, d, _⟩ {o} e2 h => by
      rw [e] at e2; cases e2; exact h es ep d
    refine ⟨PySem.W.codeHd_of_K kB (C p hp), ⟨bm, om, b1, b2, fun z => ?_, fun z => ?_, toBase b3 (out b3 (by rw [b6]; simp) fun z => ?_), b4, b5, b6⟩, fun z => ?_⟩
    · exact nD hns (z ▸ b3) (by rw [b6]; simp)
    · rw [z, hT p hp] at b3; cases b3; cases b6
    · rw [z, ha] at b3; cases b3; rw [← ho] at b6; cases b6
    · exact nD hns (show s₁.heap.get? mainGlobals = _ by rw [z]; exact hT p hp) (by simp)
  have hok : HOk P w H s₁.heap := fun b u e => by
    rw [← hH] at e
    rcases H0_inv e with ⟨h1, rfl⟩ | ⟨_, rfl, _, rfl⟩
    · exact tabAt b h1
    · exact ⟨ha, by rw [List.length_map]; exact big, vs, _, rv, by rw [ho]; exact ha⟩
  have mod : Mod K mg (hidT s₁.heap H) := ⟨kB, nsB hns, ⟨mb, nsB hb, hbb⟩, let ⟨mc, h1, h2⟩ := hlim; ⟨mc, nsB h1, h2⟩⟩
  have e0 : Env0 P w K mg (hidT s₁.heap H) callerA [] s₁ H := ⟨rfl, mod, fun b o e => of_hidT e, Nat.le_of_eq (hidT_size _ _), trivial, fun b h => (by cases h), hok, .of_eq hg⟩
  have sp : spLaw K [.ref a] H (fun v _ => v = .bl true) fun _ _ _ => False := by
    refine ⟨a, ns, rfl, hl, hbits, fun Pt hP => ?_, ?_, fun _ => rfl⟩
    · obtain ⟨p, hp, rfl⟩ := hts Pt hP
      rw [← hH]
      exact H0_tab (by rw [← hts']; exact List.mem_map.mpr ⟨p, hp, rfl⟩)
    · cases hk : K.lookup a with
      | none =>
        refine .inl ⟨ob, ?_⟩
        rw [← hH]
        exact H0_own aT (by rw [← how, hk]; rfl)
      | some o =>
        have e := KX a o hk
        rw [ha] at e; cases e
        refine .inr ⟨ob, vs.toArray, 0, hk, ?_, ?_, ?_, ?_, ?_⟩
        · rw [← ho]
        · rw [← ho]
        · rw [← ho]
        · rw [List.size_toArray, len]; exact big
        · simpa using rv
  refine codeAny_mono ((F _ kB (nsB hns) tb).run callerA [] s₁ H ⟨[.ref a], []⟩ [.ref a] [.ref a] _ _ (roomZ_caller hr) e0 (hbind s₁ (.ref a)) (.cons rfl .nil) sp) fun r s' z => end_cases z (fun u e c => ?_) fun e _ c => ?_
  · obtain ⟨v, H', os, bare, un, hok', rr, q⟩ := c
    have q' : v = .bl true := q
    subst q'
    obtain rfl : u = Value.bool true := rr
    have grown : ∀ b ∈ ts, ∃ more : Array Value, s'.heap.get? b = some { cls := .none, data := .fields more } := fun b h => by
      obtain ⟨more, z⟩ := un.tbls b #[] (by rw [← hH]; exact H0_tab h)
      exact ⟨_, hok' b _ z⟩
    have same : ∀ b o, b ∉ ts → s₁.heap.get? b = some o → s'.heap.get? b = some o := fun b o nb e => by
      cases q : H b with
      | none => exact un.keep b o e q (by intro z; cases z) (by simp)
      | some x =>
        have q0 := q
        rw [← hH] at q0
        rcases H0_inv q0 with ⟨h1, _⟩ | ⟨_, rfl, _, rfl⟩
        · exact absurd h1 nb
        · have z2 := un.frzs b ob _ q
          rw [ha] at e; cases e
          exact (hok' b _ z2).1
    refine ⟨e, ⟨fun b o e => ?_, fun b o e => ?_⟩, os, bare⟩
    · by_cases hb' : b ∈ ts
      · rw [tabAt b hb'] at e; cases e
        obtain ⟨more, hm⟩ := grown b hb'
        have hb2 := hb'
        rw [← hts'] at hb2
        obtain ⟨p, hp, rfl⟩ := List.mem_map.mp hb2
        exact .inr (.inl ⟨((PySem.W.codeHd_of_K KX (C p hp)).tab (hT p hp)).isCodeTable, rfl, #[], more, rfl, by rw [Array.empty_append]; exact hm⟩)
      · exact .inl (same b o hb' e)
    · by_cases hb' : b ∈ ts
      · obtain ⟨more, hm⟩ := grown b hb'
        exact ⟨_, hm⟩
      · exact ⟨o, same b o hb' e⟩
  · obtain ⟨_, _, _, _, _, _, _, _, _, _, _, _, z⟩ := c
    exact z.elim
/-- the def nm's code object p.1 has its table at p.2 -/
def TabOf (q : Program) (K : PySem.W.Frag) (mg : Str → Option Value) (p : Addr × Addr) : Prop :=
  ∃ (nm : Str) (fa : Addr) (o : Obj) (fd : FuncData) (e : Value) (dd : Option Addr) (vs : Array Value) (sl : Array (Option Value)), ((recsOf q).any fun e => e.name == nm) = true ∧ mg nm = some (.ref fa) ∧ K.lookup fa = some o ∧ o.data = .func fd ∧ fd.code = .ref p.1 ∧
    K.lookup p.1 = some ⟨e, dd, .fields vs, sl⟩ ∧ vs[11]? = some (.ref p.2) ∧ K.lookup p.2 = none ∧ PySem.W.codeHdIn K p.1 p.2 = true
/-- a code object's fields, as the head of a code wants them -/
def cdB (vs : Array Value) (c P : Addr) : Bool := (match (vs[11]? : Option Value) with | some (.ref P') => P' == P | _ => false) &&
  (match vs.getD 18 .none with | .str _ _ => true | _ => false) && (match vs.getD 7 .none with | .int _ _ => true | _ => false) &&
  (match vs.getD 9 .none with | .bool _ => true | _ => false) && (match vs.getD 10 .none with | .int _ _ => true | _ => false) && c != P
theorem codeHd_by {K : PySem.W.Frag} {c P : Addr} {dd : Option Addr} {vs : Array Value} {sl : Array (Option Value)} (h : K.lookup c = some ⟨.type "code", dd, .fields vs, sl⟩) (e : cdB vs c P = true) : PySem.W.codeHdIn K c P = true := by
  unfold PySem.W.codeHdIn
  rw [h]
  exact e
theorem walk_ZT {l : PySem.W.OpenLaw} {q : Program} {loose : List Str} {XP : (Str → Option Value) → Heap → Prop} {YP : World → Heap → Prop} {d : DefRec} {K : Params → PySem.W.Frag} {k : Nat} (hn : l.most = some 63) (hdf : d.params.defaults = []) (hr : Room k callerA)
    (hY : ∀ (w : World) (h : Heap), YP w h → (K w.params).In h)
    (F : ∀ (w : World) (mg : Str → Option Value) (fa : Addr) (h : Heap), (K w.params).In h → h.Ns mainGlobals mg → mg d.name = some (.ref fa) →
      ∃ (fd : FuncData) (cs : List (Addr × Addr)), (∀ P ∈ tabs, ∃ p ∈ cs, p.2 = P) ∧ (∀ p ∈ cs, TabOf q (K w.params) mg p) ∧ (∀ (s : Shared) (v : Value), BindsTo s fd ⟨[v], []⟩ [("script", v)]) ∧
        ∀ base : Heap, (K w.params).In base → base.Ns mainGlobals mg → (∀ p ∈ cs, GxR.TabB base mg p.1 p.2) → FnG l.prog w (K w.params) mg base (L2N.CX l.prog w) k fa fd ["script"] (spLaw (K w.params))) :
    PySem.W.WalkO q loose XP YP l.row.toRowW d [] (fun f vs => PySem.call f vs) := by
  refine Att.attach_callB hn hdf fun w s₀ s₁ mg mb fa o pm cd doc a vs ns G Y ho hd hcd hmg hobj hints hlen hbits hg => ?_
  have KX := hY w _ Y
  obtain ⟨fd, cs, hcs, hT, hb, hF⟩ := F w mg fa _ KX G.T.g hmg
  refine law_callG KX G.T.g G.T.b G.T.builtins G.T.nolimit hg (fun p hp => ?_) (fun p hp => ?_) (fun p hp => ?_) hcs G.T.bmain hobj hints hlen hbits hr hF hb
  · obtain ⟨nm, f1, o1, fd1, e, dd, vs1, sl, hrec, hm1, k1, k2, k3, k4, k5, _, _⟩ := hT p hp
    obtain ⟨dL, hm, hn1⟩ := List.any_eq_true.mp hrec
    obtain ⟨a', o', fd', c', P', h1, h2, h3, h4, h5, h6⟩ := G.T.tab dL hm
    rw [beq_iff_eq.mp hn1, hm1] at h1
    cases h1
    rw [KX _ _ k1] at h2
    cases h2
    rw [k2] at h3
    cases h3
    rw [k3] at h4
    cases h4
    obtain ⟨⟨oc, vc, e1, _, e3, e4⟩, hP⟩ := h6
    rw [KX _ _ k4] at e1
    cases e1
    cases e3
    rw [k5] at e4
    cases e4
    exact hP
  · obtain ⟨_, _, _, _, _, _, _, _, _, _, _, _, _, _, _, z, _⟩ := hT p hp; exact z
  · obtain ⟨_, _, _, _, _, _, _, _, _, _, _, _, _, _, _, _, z⟩ := hT p hp; exact z
theorem walk_Z {l : PySem.W.OpenLaw} {q : Program} {loose : List Str} {XP : (Str → Option Value) → Heap → Prop} {YP : World → Heap → Prop} {d : DefRec} {K : Params → PySem.W.Frag} {k : Nat} (ht0 : tabs = []) (hn : l.most = some 63) (hdf : d.params.defaults = []) (hr : Room k callerA)
    (hY : ∀ (w : World) (h : Heap), YP w h → (K w.params).In h)
    (F : ∀ (w : World) (mg : Str → Option Value) (fa : Addr) (h : Heap), (K w.params).In h → h.Ns mainGlobals mg → mg d.name = some (.ref fa) →
      ∃ fd : FuncData, (∀ (s : Shared) (v : Value), BindsTo s fd ⟨[v], []⟩ [("script", v)]) ∧ ∀ base : Heap, (K w.params).In base → base.Ns mainGlobals mg → FnG l.prog w (K w.params) mg base (L2N.CX l.prog w) k fa fd ["script"] (spLaw (K w.params))) :
    PySem.W.WalkO q loose XP YP l.row.toRowW d [] (fun f vs => PySem.call f vs) :=
  walk_ZT hn hdf hr hY fun w mg fa h KX G hmg =>
    let ⟨fd, hb, hF⟩ := F w mg fa h KX G hmg
    ⟨fd, [], fun P hP => (by rw [ht0] at hP; cases hP), fun p hp => (by cases hp), hb, fun base Kb nb _ => hF base Kb nb⟩
end Z
end

section
set_option Elab.async false
set_option linter.all false
set_option maxRecDepth 100000
set_option maxHeartbeats 1000000
namespace Z
noncomputable section
open PySem PySem.Spec PyProof.Rows L2
/-- a body that was walked gives its promise -/
theorem fn_fin {K : PySem.W.Frag} {mg : Str → Option Value} {body : SDen} {N : List Str} {n : Nat} {vs : List V} {H : Hp} {Q : VK} {E : XK} (hN : n ≤ N.length) (h : spOf K mg n (fnF N.length body) vs H Q E) : rdS K mg (wE E) body { nx := fun _ H' => Q .non H', rt := Q } (L2.start N vs) H := by
  obtain ⟨hl, ι, ds, S0, sr, r, p⟩ := h
  refine ⟨ι, _, S0, sr, er_start r (by rw [hl]; exact hN), ?_⟩
  unfold fnF at p
  cases q : body (ds.map some ++ List.replicate (N.length - ds.length) none) S0 with
  | nx e S' => rw [q] at p; exact fun ι' H' σ' e1 s1 _ => p ι' H' .non e1 s1 .non
  | rt d S' => rw [q] at p; exact p
  | ex c fs e S' => rw [q] at p; exact fun ι' H' σ' dd C gs e1 s1 _ => p ι' H' dd C gs e1 s1
  | bk e S' => rw [q] at p; exact p.elim
  | ct e S' => rw [q] at p; exact p.elim
  | bad => rw [q] at p; exact p.elim
section
variable {P : Program} {w : World} {K : PySem.W.Frag} {mg : Str → Option Value} {base : Heap}
/-- as fn_ok, for a def with defaults -/
theorem fn_okD {x qual : Str} {st : Stmt} {f : Addr} {fd : FuncData} {N ps : List Str} {k : Nat} {body : SDen} {dvs : List V} {kws : List (Str × V)} (F : FunD K x qual (defArgs st) (defBody st) (defScope st) dvs kws f fd) (S : FnScope N ps (defScope st)) (hN : ps.length ≤ N.length)
    (hb : ∀ (cdv : Value) (A : Around) (outer : List PySem.Env) (s : Shared) (H : Hp) (E : XK), RoomZ k (A.deeper (envOfC qual (defScope st) s.heap.objs.size f cdv)) →
      L2N.Takes (cxOf (L2N.CX P w) P w K mg base N qual (defScope st) f cdv A outer s H E) (wE E) → SSs (cxOf (L2N.CX P w) P w K mg base N qual (defScope st) f cdv A outer s H E) (wE E) (defBody st) body) :
    FnZ P w K mg base (k + 1) f fd ps (fnF N.length body) :=
  by
    obtain ⟨oc, od, dV, kV, doc, pm, an, cdv, ct, osl, rfl, lk, hcd, _, _⟩ := F.ex
    exact fn_ofG lk hcd S (fun vs H Q E h => h.1) fun A outer s H vs Q E hr h => ⟨_, hb cdv A outer s H E hr (L2N.takes_of rfl rfl rfl rfl), fn_fin hN h⟩
/-- a def that is never called -/
theorem fn_bad {f : Addr} {fd : FuncData} {ps : List Str} {k : Nat} : FnZ P w K mg base k f fd ps (fun _ _ => .bad) :=
  ⟨fun vs H Q E h => h.1, fun A outer s H args us vs Q E _ _ _ _ h => by
    obtain ⟨_, ι, ds, S, _, _, p⟩ := h
    exact p.elim⟩
end
/-- f(e, .., k = v, ..), which raises nothing -/
def noEx {α : Type} (r : R α) : R α := match r with
  | .ok a S => .ok a S
  | _ => .bad
def dCallK (n m : Nat) (F : FD) (a b : DenA) : Den := fun env S => (a env S).bind fun ds S1 => (b env S1).bind fun es S2 => if ds.length = n ∧ es.length = m then noEx (F (ds ++ es) S2) else .bad
section
variable {K : PySem.W.Frag} {x qual : Str} {params : Arguments} {body : List Stmt} {scope : Scope} {dvs : List V} {kws : List (Str × V)} {f : Addr} {fd : FuncData} {ps ks : List Str} {n : Nat}
/-- every parameter is written, the last ones by their names -/
theorem kbn_of (F : FunD K x qual params body scope dvs kws f fd) (hd : dvs ≠ [])
    (h : ∀ (T : Addr) (kV doc pm : Value) (an : Option Addr) (cdv ct : Value) (us ws its : List Value), us.length = n → ws.length = ks.length → its.length = dvs.length →
      ∃ k, bindArgs (PySem.W.fnOf x qual params body scope (.ref T) kV doc pm an cdv ct) ⟨us, ks.zip ws⟩ = seqItems? (.ref T) >>= k ∧ k (some its.toArray) = pure (ps.zip (us ++ ws))) : KBn K fd ps n ks (fun us ws => us ++ ws) (fun vs zs => vs ++ zs) := by
  obtain ⟨oc, od, dV, kV, doc, pm, an, cdv, ct, osl, rfl, lk, hcd, hD, hK⟩ := F.ex
  rcases hD with ⟨e, _⟩ | ⟨_, T, o, its, m, rfl, lT, oT, rT⟩
  · exact absurd e hd
  · refine ⟨fun s us ws X h1 h2 => ?_, fun r1 r2 => r1.append r2⟩
    obtain ⟨k, e1, e2⟩ := h T kV doc pm an cdv ct us ws its h1 h2 rT.length.symm
    exact BindsTo.of_looks fun M => by rw [e1]; exact looks_items X lT oT (.of_pure e2)
end
section
variable {X : Cx} {W : WX} {k n : Nat} {f : Addr} {fd : FuncData} {ps ks : List Str} {F : FD} {x : Str} {p pos : Pos} {e : Expr} {es : List Expr} {kws : List Keyword} {da db : DenA} {kpos : Pos} {nm : Option Str} {d : Den}
abbrev KK (X : Cx) (W : WX) (kws : List Keyword) (d : DenA) : Prop := PK X kws (rdA X.K X.mg W d)
theorem PK.imp {t t' : TA} (h : PK X kws t) (f : ∀ σ H Q, t' σ H Q → t σ H Q) : PK X kws t' := ⟨fun pos pins s σ H Q I q => h.run pos pins s σ H Q I (f σ H Q q)⟩
theorem k_nil : KK X W [] aNil := PK.imp pk_nil fun σ H Q h => by
  obtain ⟨ι, env, S, s, er, p⟩ := h
  exact p.ret s .nil
theorem k_cons (h : EE X W e d) (hr : KK X W kws da) : KK X W (⟨nm, e, kpos⟩ :: kws) (aCons d da) := PK.imp (pk_cons h hr) fun σ H Q h => by
  obtain ⟨ι, env, S, s, er, p⟩ := h
  refine ⟨ι, env, S, s, er, (Post.bind (Rel' := Rp X.K) p).mono ?_⟩
  rintro x H1 ⟨ι1, dx, S1, e1, s1, r1, p1⟩
  refine ⟨ι1, env, S1, s1, er.ext e1, (Post.bind (Rel' := Rps X.K) p1).mono ?_⟩
  rintro xs H2 ⟨ι2, dxs, S2, e2, s2, r2, p2⟩
  exact p2.ret s2 (.cons (r1.ext e2) r2)
theorem e_callK {m : Nat} (Fk : FnZ X.prog X.w X.K X.mg X.base k f fd ps F) (hr : RoomZ k X.A) (hm : X.mg x = some (.ref f)) (hk : PySem.W.keepIn X.K (.ref f) = true) (hb : KBn X.K fd ps n ks (fun us ws => us ++ ws) (fun vs zs => vs ++ zs)) (ha : AA X W (e :: es) da) (hkw : KK X W kws db) (hm' : ks.length = m := by rfl) (hl : n + m = ps.length := by rfl) (hg : Gl X x := by rfl)
    (hall : (backToKw pos (keywordEach kws X.env)).all (·.1.isSome) = true := by rfl) (hks : (backToKw pos (keywordEach kws X.env)).filterMap (·.1) = ks := by rfl) (hdb : (x == ("__debug__" : Str)) = false := by decide) (he : starEach (e :: es) X.env = (false, eval e X.env) :: starEach es X.env := by rfl)
    (hpl : ((backTo pos (starEach (e :: es) X.env)).any (·.1) || (backToKw pos (keywordEach kws X.env)).any (·.1.isNone)) = false := by rfl) :
    EE X W (.Call (.Name x p) (e :: es) kws pos) (dCallK n m F da db) := by
  subst hm'
  exact PE.imp (pe_callNG (E := E0) (g := fun us ws => us ++ ws) (gV := fun vs zs => vs ++ zs) Fk hr hg hm hk hb passN ha hkw hall hks hdb he hpl) fun σ H Q h => by
    obtain ⟨ι, env, S, s, er, p⟩ := h
    refine ⟨ι, env, S, s, er, (Post.bind (Rel' := Rps X.K) p).mono ?_⟩
    rintro xs H1 ⟨ι1, ds, S1, e1, s1, r1, p1⟩
    refine ⟨ι1, env, S1, s1, er.ext e1, (Post.bind (Rel' := Rps X.K) p1).mono ?_⟩
    rintro ys H2 ⟨ι2, es', S2, e2, s2, r2, p2⟩
    split at p2
    · rename_i hn
      refine ⟨by rw [r1.length]; exact hn.1, by rw [r2.length]; exact hn.2, by rw [List.length_append, r1.length, r2.length, hn.1, hn.2]; exact hl, ι2, _, S2, s2, (r1.ext e2).append r2, ?_⟩
      cases q : F (ds ++ es') S2 with
      | ok a S' => rw [q] at p2; exact p2
      | ex c fs S' => rw [q] at p2; exact p2.elim
      | bad => rw [q] at p2; exact p2.elim
    · exact p2.elim
end

section
variable {X : Cx} {W : WX} {a b : Expr} {da : DenA} {x y : Str} {i j : Nat} {px py pt pt2 pos : Pos}
theorem s_par {kt k2} (hc : X.calm = true) (hN : X.N.Nodup) (hij : i ≠ j) (ha : AA X W [a, b] da) (hi : X.N[i]? = some x := by rfl) (hj : X.N[j]? = some y := by rfl) (hx : X.env.scope.names.lookup x = some .local := by rfl) (hy : X.env.scope.names.lookup y = some .local := by rfl)
    (hw : swappedStores [.Tuple [.Name x px, .Name y py] kt pt] (.Tuple [a, b] k2 pt2) X.env = pure (some [x, y]) := by rfl) (hs : swapsWithSole [.Tuple [.Name x px, .Name y py] kt pt] (.Tuple [a, b] k2 pt2) pos.line X.env = pure false := by rfl) :
    SS X W (.Assign [.Tuple [.Name x px, .Name y py] kt pt] (.Tuple [a, b] k2 pt2) pos) (sPar i j da) := PS.imp (ps_par hc hN hi hj hij hx hy ha hw hs) fun Dn σ H h => rd_par h
end
end
end Z
end

section
set_option Elab.async false
set_option linter.all false
set_option maxRecDepth 100000
set_option maxHeartbeats 2000000
namespace PySem
open PySem PySem.Spec PySem.Calls PyProof.Rows
section
variable {prog : Program} {w : World} {A : Around} {E : Value → Shared → Prop} {s : Shared} {R : Result → Shared → Prop}
/-- list.__init__ of a list walked backwards -/
theorem zz_init_rev {it l S : Addr} {items : Array Value} (hh : A.handled = none) (hit : s.heap.IsRevIter it l ((items.size : Int) - 1)) (hl : s.heap.IsList l items) (hne : l ≠ it) (hn : items.size ≤ sizeLine)
    (hS : s.heap.get? S = some { cls := .type "list", data := .seq #[] }) (hSi : S ≠ it) (hSl : S ≠ l)
    (hR : ∀ (h' : Heap) (tk : Nat) (acc : Array Value) (c' : Nat), (∀ b o, b ≠ S → b ≠ it → s.heap.get? b = some o → h'.get? b = some o) → h'.get? S = some { cls := .type "list", dict := none, data := .seq acc c', slots := #[] } →
      ItemsOf (fun i v => items[items.size - 1 - i]? = some v) acc items.size → R (.ok (.ret .none)) { s with heap := h', toks := tk }) :
    wpAny (model prog w) A.in1 (Builtin.«list.__init__» ⟨[.ref S, .ref it], []⟩)
      (fun fin s' => match fin with | .done f => R (.ok f) s' | .again c' => c'.quiet = true ∧ codeAny (model prog w) A c' R s') (fun e s' => R (.error e) s') s := by
  have W := (Walks.listRev (prog := prog) (w := w) (A := A.in1) hh it l hne items).toS
  show wpAny _ A.in1 (do let old ← Builtin.List.listItems (.ref S); Builtin.List.listUpdate (.ref S) (fun _ => #[]); letGo old.toList.reverse; Builtin.List.listExtendWith (.ref S) (.ref it) .none) _ _ _
  refine wpAny_bind (?_ : wpAny _ _ (Builtin.List.listItems (.ref S)) _ _ _)
  unfold Builtin.List.listItems
  refine wpAny_bind (wpAny_seqItems hS rfl (wpAny_pure (?_ : wpAny _ A.in1 (updateSeq S (fun _ => #[]) >>= fun _ => letGo (#[] : Array Value).toList.reverse >>= fun _ => Builtin.List.listExtendWith (.ref S) (.ref it) .none) _ _ s)))
  refine wpAny_bind (wpAny_updateSeq hS rfl (wpAny_bind (wpAny_letGo ?_)))
  have g2 := Heap.get?_update_self (Obj.mapSeq (fun _ => (#[] : Array Value))) hS rfl
  have k2 : ∀ b o, b ≠ S → s.heap.get? b = some o → (s.heap.update S (Obj.mapSeq (fun _ => (#[] : Array Value)))).get? b = some o := fun b o hb e => (Heap.get?_update_other _ _ (Ne.symm hb)).trans e
  have hit2 : (s.heap.update S (Obj.mapSeq (fun _ => (#[] : Array Value)))).IsRevIter it l ((items.size : Int) - 1) := hit.at fun o e => k2 it o (Ne.symm hSi) e
  have hl2 : (s.heap.update S (Obj.mapSeq (fun _ => (#[] : Array Value)))).IsList l items := by
    obtain ⟨o, ho, r⟩ := hl
    exact ⟨o, k2 l o (Ne.symm hSl) ho, r⟩
  have nf : S ∉ [it, l] := by simp [hSi, hSl]
  have hT : ({ s with heap := s.heap.update S (Obj.mapSeq (fun _ => (#[] : Array Value))) } : Shared).TypeIs (.ref it) "list_reverseiterator" := Heap.IsRevIter.typeIs (s := { s with heap := s.heap.update S (Obj.mapSeq (fun _ => (#[] : Array Value))) }) hit2
  have n1 : Builtin.List.listSameRef (.ref S) (.ref it) = false := by simp [Builtin.List.listSameRef, hSi]
  unfold Builtin.List.listExtendWith
  refine wpAny_bind (wpAny_typeOf hT ?_)
  rw [if_neg (fun z => by rw [n1] at z; simp at z)]
  refine wpAny_bind (wpAny_pyIter_revIter (s := { s with heap := s.heap.update S (Obj.mapSeq (fun _ => (#[] : Array Value))) }) hit2 (wpAny_bind (wpAny_holding (?_ : wpAny _ _ (Builtin.List.listLengthHint (.ref it)) _ _ _))))
  unfold Builtin.List.listLengthHint
  refine wpAny_bind (wpAny_specialOf hT RT.nolen_lri (wpAny_bind (?_ : wpAny _ A.in1 (specialOf (Value.ref it) (Str.ofString "__length_hint__")) _ _ _)))
  refine wpAny_specialOf hT RT.hint_lri ?_
  generalize hid : ("list_reverseiterator.__length_hint__" : String) = id1
  wp_delta
  rw [show splitId id1 = some ("list_reverseiterator", "__length_hint__") from (by subst hid; decide +kernel)]
  subst hid
  refine wpAny_bind (wpAny_isInstance (b := true) hT (by rw [isSubtype_type]; kernel_rfl) (wpAny_pure ?_))
  rw [if_neg (by decide)]
  have z0 : ((items.size : Nat) : Int) - 1 - ((0 : Nat) : Int) = (items.size : Int) - 1 := by omega
  refine wpAny_pure ⟨plainId_quiet F.plain_extend_loop _, codeAny_extend_loopS W hn _ nf _ items.size 0 _ _ _ rfl (Nat.zero_le _) ⟨Nat.zero_le _, (by rw [z0]; exact hit2), hl2⟩ g2 (ItemsOf.nil _) fun s' acc' c' hm hS' hacc => ?_⟩
  rw [Moved.eq_with hm]
  exact hR s'.heap s'.toks acc' c' (fun b o hb hi e => hm.heap b o (fun z => by
    rcases List.mem_cons.mp z with z | z
    · exact hb z
    · exact hi (List.mem_singleton.mp z)) (k2 b o hb e)) hS' hacc
theorem zz_call_rev {it l : Addr} {items : Array Value} {Q : Value → Shared → Prop} (hh : A.handled = none) (hit : s.heap.IsRevIter it l ((items.size : Int) - 1)) (hl : s.heap.IsList l items) (hne : l ≠ it) (hn : items.size ≤ sizeLine)
    (hQ : ∀ (h' : Heap) (tk : Nat) (acc : Array Value) (c' : Nat), (∀ b o, b ≠ it → s.heap.get? b = some o → h'.get? b = some o) → h'.get? s.heap.objs.size = some { cls := .type "list", dict := none, data := .seq acc c', slots := #[] } →
      ItemsOf (fun i v => items[items.size - 1 - i]? = some v) acc items.size → Q (.ref s.heap.objs.size) { s with heap := h', toks := tk }) : wpAny (model prog w) A (call (.type "list") [.ref it]) Q E s := by
  obtain ⟨oi, hoi, _⟩ := id hit
  obtain ⟨ol, hol, _⟩ := id hl
  refine callType_codes (Q₁ := fun obj s₁ => obj = .ref s.heap.objs.size ∧ s₁ = { s with heap := s.heap.push { cls := .type "list", data := .seq #[] } })
    F.called_list (F.typeCall_list_1 _) F.entry_list_init (code_list_new _ ⟨rfl, rfl⟩) ?_
  rintro _ _ ⟨rfl, rfl⟩
  have hS : (s.heap.push { cls := .type "list", data := .seq #[] }).get? s.heap.objs.size = some { cls := .type "list", data := .seq #[] } := Heap.get?_push_size _ (by rfl)
  refine ⟨⟨_, hS, rfl⟩, F.args_list_init_2 _ _, zz_init_rev (A := A.in1) (s := { s with heap := s.heap.push { cls := .type "list", data := .seq #[] } }) hh (hit.at fun o e => Heap.get?_push_of_some _ e) (hl.push _) hne hn hS (Nat.ne_of_gt (Heap.lt_size hoi)) (Nat.ne_of_gt (Heap.lt_size hol)) fun h' tk acc c' k g i => ?_⟩
  exact ⟨rfl, hQ h' tk acc c' (fun b o hb e => k b o (Nat.ne_of_lt (Heap.lt_size e)) hb (Heap.get?_push_of_some _ e)) g i⟩
end
end PySem
namespace Z
open PySem PySem.Spec PyProof.Rows L2
def rRevL (K : PySem.W.Frag) (te : TE) : TE := fun σ H Q => te σ H fun v H1 => ∃ (a : Addr) (xs : List V), v = .ref a ∧ SqL K H1 a xs ∧ ∀ p, H1 p = none → Q (.ref p) (upd H1 p (.lst xs.reverse))
theorem pe_listRev {X : Cx} {e : Expr} {te : TE} {p p2 pos pos2 : Pos} (hc : X.calm = true) (hm : X.mg "list" = none) (hm2 : X.mg "reversed" = none) (he : PE X e te) (hg : Gl X "list") (hg2 : Gl X "reversed") (hs : starEach [e] X.env = (false, eval e X.env) :: starEach [] X.env)
    (hs2 : starEach [.Call (.Name "reversed" p2) [e] [] pos2] X.env = (false, eval (.Call (.Name "reversed" p2) [e] [] pos2) X.env) :: starEach [] X.env) : PE X (.Call (.Name "list" p) [.Call (.Name "reversed" p2) [e] [] pos2] [] pos) (rRevL X.K te) := by
  refine ⟨fun pins s σ H Q I h => Call_ (ld_blt I hg hm (show bootBuiltins "list" = some (.type "list") from by decide +kernel) (PyProof.Rows.callWith_type1 (args_cons (Call_ (ld_blt I hg2 hm2 PyProof.Rows.boot_reversed (PyProof.Rows.callWith_type1 (args_cons (thn (he.run pins s σ H _ I h) ?_) hs) hs rfl))) hs2) hs2 rfl))⟩
  rintro u s1 ⟨v, H1, I1, r1, a, xs, rfl, hq, q⟩
  cases (show u = Value.ref a from r1)
  obtain ⟨its, rv, pl, hz⟩ := I1.list hq
  refine args_nil (call_reversed_list pl.isList (args_nil ?_))
  obtain ⟨f0, f1, f2, f3, f4, f5⟩ := I1.fpOk (H' := H1) (b := s1.heap.objs.size) (Nat.le_refl _) (I1.hok.fresh (Nat.le_refl _))
  have I2 : Inv X pins σ H1 { s1 with heap := s1.heap.push (revObj a ((its.toArray.size : Int) - 1)) } := I1.kept (t' := s1.toks) fun b o e => Heap.get?_push_of_some _ e
  obtain ⟨ol, hol, _⟩ := id pl.isList
  refine zz_call_rev (s := { s1 with heap := s1.heap.push (revObj a ((its.toArray.size : Int) - 1)) }) (I1.ok.hd hc) ⟨_, Heap.get?_push_size _ rfl, rfl, rfl⟩ (pl.isList.push _) (Nat.ne_of_lt (Heap.lt_size hol)) (by rw [List.size_toArray, ← rv.length]; exact hz) fun h' tk acc c' hk g hi => ?_
  have hS : (s1.heap.push (revObj a ((its.toArray.size : Int) - 1))).objs.size = s1.heap.objs.size + 1 := by simp [Heap.push]
  have k1 : ∀ b u, s1.heap.get? b = some u → h'.get? b = some u := fun b u e => hk b u (Nat.ne_of_lt (Heap.lt_size e)) (Heap.get?_push_of_some _ e)
  have new : ObjOk X.prog X.w (upd H1 (s1.heap.push (revObj a ((its.toArray.size : Int) - 1))).objs.size (.lst xs.reverse)) h' (s1.heap.push (revObj a ((its.toArray.size : Int) - 1))).objs.size (.lst xs.reverse) :=
    ⟨by rw [List.length_reverse]; exact hz, acc.toList, c', RT.vals_rev rv hi, by rw [Array.toArray_toList]; exact g⟩
  exact ⟨.ref _, _, I1.laid (t' := tk) k1 (by rw [hS]; exact Nat.le_succ _) new, rfl, q _ (I1.hok.fresh (by rw [hS]; exact Nat.le_succ _))⟩
theorem e_revL0 {X : Cx} {W : WX} {e : Expr} {d : Den} {p p2 pos pos2 : Pos} (c : Bool) (hc : X.calm = true) (hm : X.mg "list" = none) (hm2 : X.mg "reversed" = none) (he : EE X W e d) (hg : Gl X "list") (hg2 : Gl X "reversed") (hs : starEach [e] X.env = (false, eval e X.env) :: starEach [] X.env)
    (hs2 : starEach [.Call (.Name "reversed" p2) [e] [] pos2] X.env = (false, eval (.Call (.Name "reversed" p2) [e] [] pos2) X.env) :: starEach [] X.env) {g : Den} (hd : g = fun env S => (d env S).bind fun x S1 => match lstOf S1 x with
      | some xs => mkL c xs.reverse S1
      | none => .bad) : EE X W (.Call (.Name "list" p) [.Call (.Name "reversed" p2) [e] [] pos2] [] pos) g := PE.imp (pe_listRev hc hm hm2 he hg hg2 hs hs2) fun σ H Q h => by
  subst hd
  obtain ⟨ι, env, S, s, er, p⟩ := h
  refine ⟨ι, env, S, s, er, (Post.bind (Rel' := Rp X.K) p).mono ?_⟩
  rintro x H1 ⟨ι1, dx, S1, e1, s1, r1, p1⟩
  split at p1
  · rename_i xs e4
    obtain ⟨a, vs, rfl, hs, r⟩ := lst_inv s1 r1 e4
    exact ⟨a, vs, rfl, hs, (p1.mkL s1 r.reverse).2⟩
  · exact p1.elim
end Z
end

section
set_option Elab.async false
set_option linter.all false
set_option maxRecDepth 100000
set_option maxHeartbeats 1000000
namespace Z
noncomputable section
open PySem PySem.Spec PyProof.Rows L2
theorem no1 {p : Str → Prop} {a : Str} (h : p a) : ∀ f ∈ [a], p f := fun f hf => by rw [List.mem_singleton.mp hf]; exact h
theorem no2 {p : Str → Prop} {a b : Str} (h : p a) (k : p b) : ∀ f ∈ [a, b], p f := fun f hf => by
  rcases List.mem_cons.mp hf with rfl | hf
  · exact h
  · rw [List.mem_singleton.mp hf]; exact k
theorem cl_of {K : PySem.W.Frag} {C : Addr} (h : PySem.W.hasDictIn K C = true) : (PySem.W.clsIn K C).isSome = true := by
  obtain ⟨cd, hc, _⟩ := PySem.W.any_some h
  rw [hc]; rfl
theorem kit_ref {K : PySem.W.Frag} {C E : Addr} {b : Bool} (hd : PySem.W.hasDictIn K E = true) (ty : PySem.W.typeIn K (.ref E) = some (.type "type")) (h : PySem.W.subIn K (.ref C) (.ref E) = some b) (hs : PySem.W.subIn K (.ref C) (.ref C) = some true) : PySem.W.kitOne K (.ref C) (.ref E) = some b := by
  unfold PySem.W.kitOne
  by_cases e : C = E
  · subst e
    rw [hs] at h; cases h
    simp
  · have e1 : (Value.ref C == Value.ref E) = false := by
      rw [beq_eq_false_iff_ne]; intro z; cases z; exact e rfl
    rw [e1, if_neg Bool.false_ne_true]
    unfold PySem.W.kitCls
    simp only [cl_of hd, ty]
    simpa using h
theorem kit_typ {K : PySem.W.Frag} {C : Addr} {b : Bool} {T : String} (hm : PySem.W.kitMeta T = true) (h : PySem.W.subIn K (.ref C) (.type T) = some b) : PySem.W.kitOne K (.ref C) (.type T) = some b := by
  unfold PySem.W.kitOne
  have e1 : (Value.ref C == Value.type T) = false := by
    rw [beq_eq_false_iff_ne]; intro z; cases z
  rw [e1, if_neg Bool.false_ne_true]
  unfold PySem.W.kitCls
  simp only [hm, if_true]
  exact h
/-! ### comparisons as tests -/
theorem rdT_B {K : PySem.W.Frag} {mg : Str → Option Value} {W : WX} {d : Den} {σ : L2.St} {H : Hp} {Q : Bool → Hp → Prop} (h : rdT K mg W (tB' d) σ H Q) : rd K mg W d σ H (fun x H' => ∃ k, x = .bl k ∧ Q k H') := by
  obtain ⟨ι, env, S, s, er, p⟩ := h
  refine ⟨ι, env, S, s, er, (Post.bind (Rel' := Rp K) p).mono ?_⟩
  rintro x H1 ⟨ι1, dx, S1, e1, s1, r1, p1⟩
  cases dx with
  | bl c => cases r1; exact ⟨c, rfl, p1.ret s1 rfl⟩
  | _ => exact p1.elim
section
variable {X : Cx} {W : WX} {a b c : Expr} {da db dc : Den} {pos pos' : Pos} {r r' : R2} {f g : D → D → Sto → R D} {j : Nat}
theorem rd_isN {K : PySem.W.Frag} {mg : Str → Option Value} {σ : L2.St} {H : Hp} {Q : VK} (h : rd K mg W (dIsN da) σ H Q) : tIsN (rd K mg W da) σ H Q := by
  obtain ⟨ι, env, S, s, er, p⟩ := h
  refine ⟨ι, env, S, s, er, (Post.bind (Rel' := Rp K) p).mono ?_⟩
  rintro x H1 ⟨ι1, dx, S1, e1, s1, r1, p1⟩
  rw [r1.isNon]; exact p1.ret s1 (.bl _)
theorem rd_notN {K : PySem.W.Frag} {mg : Str → Option Value} {σ : L2.St} {H : Hp} {Q : VK} (h : rd K mg W (dNotN da) σ H Q) : tNotN (rd K mg W da) σ H Q := by
  obtain ⟨ι, env, S, s, er, p⟩ := h
  refine ⟨ι, env, S, s, er, (Post.bind (Rel' := Rp K) p).mono ?_⟩
  rintro x H1 ⟨ι1, dx, S1, e1, s1, r1, p1⟩
  rw [r1.isNon]; exact p1.ret s1 (.bl _)
theorem sIsB {K : PySem.W.Frag} (k : Bool) {mg : Str → Option Value} {σ : L2.St} {H : Hp} {Q : VK} (h : rd K mg W (dIsB k da) σ H Q) : tOp (rIsBl k) (rd K mg W da) (tC (.bl k)) σ H Q := by
  obtain ⟨ι, env, S, s, er, p⟩ := h
  refine ⟨ι, env, S, s, er, (Post.bind (Rel' := Rp K) p).mono ?_⟩
  rintro x H1 ⟨ι1, dx, S1, e1, s1, r1, p1⟩
  refine ⟨rfl, ?_⟩
  rw [r1.isBl]; exact p1.ret s1 (.bl _)
theorem sNotB {K : PySem.W.Frag} (k : Bool) {mg : Str → Option Value} {σ : L2.St} {H : Hp} {Q : VK} (h : rd K mg W (dNotB k da) σ H Q) : tOp (rNotBl k) (rd K mg W da) (tC (.bl k)) σ H Q := by
  obtain ⟨ι, env, S, s, er, p⟩ := h
  refine ⟨ι, env, S, s, er, (Post.bind (Rel' := Rp K) p).mono ?_⟩
  rintro x H1 ⟨ι1, dx, S1, e1, s1, r1, p1⟩
  refine ⟨rfl, ?_⟩
  rw [r1.isBl]; exact p1.ret s1 (.bl _)
theorem t_cmp {op : CmpOp} (ho : OpR X (compareOp op) r) (hf : OpS X.K r f) (ha : EE X W a da) (hb : EE X W b db) (hm : behindInMarks op b = false := by first | exact nomark _ | rfl) : TT' X W (.Compare a [op] [b] pos) (tB' (bin f da db)) :=
  PT.imp (pt_cmpR ho ha hb hm) fun _ _ _ h => rd_bin hf (rdT_B h)
theorem t_isN (ha : EE X W a da) : TT' X W (.Compare a [.Is] [.Constant .none j pos'] pos) (tB' (dIsN da)) := PT.imp (pt_cmp (pc_isN ha)) fun _ _ _ h => rd_isN (rdT_B h)
theorem t_notN (ha : EE X W a da) : TT' X W (.Compare a [.IsNot] [.Constant .none j pos'] pos) (tB' (dNotN da)) := PT.imp (pt_cmp (pc_notN ha)) fun _ _ _ h => rd_notN (rdT_B h)
theorem t_isB {k : Bool} (ha : EE X W a da) : TT' X W (.Compare a [.Is] [.Constant (.bool k) j pos'] pos) (tB' (dIsB k da)) := PT.imp (pt_cmpR (op_isB k) ha pe_bl (nomark _)) fun _ _ _ h => sIsB k (rdT_B h)
theorem t_notB {k : Bool} (ha : EE X W a da) : TT' X W (.Compare a [.IsNot] [.Constant (.bool k) j pos'] pos) (tB' (dNotB k da)) := PT.imp (pt_cmpR (op_notB k) ha pe_bl (nomark _)) fun _ _ _ h => sNotB k (rdT_B h)
theorem t_chain {op op' : CmpOp} (ho : OpR X (compareOp op) r) (ho' : OpR X (compareOp op') r') (hf : OpS X.K r f) (hg : OpS X.K r' g) (ha : EE X W a da) (hb : EE X W b db) (hc : EE X W c dc)
    (hm : lastMarks [op, op'] [b, c] = false := by with_unfolding_all rfl) : TT' X W (.Compare a [op, op'] [b, c] pos) (tB' (chain f g da db dc)) := PT.imp (pt_chain ho ho' ha hb hc hm) fun _ _ _ h => rd_chain hf hg (rdT_B h)
end
def dRevL (c : Bool) (d : Den) : Den := fun env S => (d env S).bind fun x S1 => match lstOf S1 x with
  | some xs => mkL c xs.reverse S1
  | none => .bad
section
variable {X : Cx} {W : WX} {e : Expr} {d : Den} {p p2 pos pos2 : Pos}
theorem e_revL (c : Bool) (hm : X.mg "list" = none) (hm2 : X.mg "reversed" = none) (he : EE X W e d) (hc : X.calm = true := by rfl) (hg : Gl X "list" := by rfl) (hg2 : Gl X "reversed" := by rfl) (hs : starEach [e] X.env = (false, eval e X.env) :: starEach [] X.env := by rfl)
    (hs2 : starEach [.Call (.Name "reversed" p2) [e] [] pos2] X.env = (false, eval (.Call (.Name "reversed" p2) [e] [] pos2) X.env) :: starEach [] X.env := by rfl) : EE X W (.Call (.Name "list" p) [.Call (.Name "reversed" p2) [e] [] pos2] [] pos) (dRevL c d) := e_revL0 c hc hm hm2 he hg hg2 hs hs2 rfl
end
end
end Z
end

section
set_option Elab.async false
set_option linter.all false
set_option maxRecDepth 100000
namespace Z
/-! ### what is reckoned -/
section
variable {α β : Type} {a : α} {S : Sto} {c : PySem.Str} {fs : List (PySem.Str × D)} {e : Env} {p : Prop} [Decidable p] {d : D}
theorem F.then_nx {k : SDen} : (F.nx e S).then k = k e S := rfl
theorem F.then_rt {k : SDen} : (F.rt d S).then k = .rt d S := rfl
theorem F.then_bk {k : SDen} : (F.bk e S).then k = .bk e S := rfl
theorem F.then_ct {k : SDen} : (F.ct e S).then k = .ct e S := rfl
theorem F.then_ex {k : SDen} : (F.ex c fs e S).then k = .ex c fs e S := rfl
theorem F.then_bad {k : SDen} : F.bad.then k = .bad := rfl
theorem F.then_ite {f g : F} {k : SDen} : (if p then f else g).then k = if p then f.then k else g.then k := by split <;> rfl
theorem R.lift_ok {k : α → Sto → F} : (R.ok a S).lift e k = k a S := rfl
theorem R.lift_ex {k : α → Sto → F} : (R.ex c fs S : R α).lift e k = .ex c fs e S := rfl
theorem R.lift_bad {k : α → Sto → F} : (R.bad : R α).lift e k = .bad := rfl
theorem R.lift_ite {f g : R α} {k : α → Sto → F} : (if p then f else g).lift e k = if p then f.lift e k else g.lift e k := by split <;> rfl
theorem R.bind_ite {f g : R α} {k : α → Sto → R β} : (if p then f else g).bind k = if p then f.bind k else g.bind k := by split <;> rfl
def F.fin : F → R D
  | .nx _ S' => .ok .non S'
  | .rt d S' => .ok d S'
  | .ex c fs _ S' => .ex c fs S'
  | _ => .bad
theorem fnF_eq {n : Nat} {body : SDen} {ds : List D} : fnF n body ds S = (body (ds.map some ++ List.replicate (n - ds.length) none) S).fin := by
  unfold fnF F.fin
  cases body (ds.map some ++ List.replicate (n - ds.length) none) S <;> rfl
theorem F.fin_nx : (F.nx e S).fin = .ok .non S := rfl
theorem F.fin_rt : (F.rt d S).fin = .ok d S := rfl
theorem F.fin_ex : (F.ex c fs e S).fin = .ex c fs S := rfl
theorem F.fin_bad : F.bad.fin = .bad := rfl
theorem F.fin_ite {f g : F} : (if p then f else g).fin = if p then f.fin else g.fin := by split <;> rfl
theorem asB_bl {b : Bool} : asB (.bl b) S = .ok b S := rfl
theorem asI_int {i : Int} : asI (.int i) S = .ok i S := rfl
theorem arity_eq {n : Nat} {F : FD} {ds : List D} (h : ds.length = n) : arity n F ds S = F ds S := if_pos h
theorem forGo_nil {g : Sto → Prop} {t : Tg} {b : SDen} (h : g S) : forGo g t b [] e S = .nx e S := by rw [forGo]; exact if_pos h
/-- a loop by its invariant over what is left, where no turn leaves it -/
theorem forGo_inv {g : Sto → Prop} {t : Tg} {b : SDen} {xs : List D} (I : List D → Env → Sto → Prop) (h0 : ∀ S e, I xs e S → True)
    (hg : ∀ ys e S, I ys e S → g S) (hs : ∀ y ys e S, I (y :: ys) e S → ∃ e1 e2 S2, t.run y e = some e1 ∧ (b e1 S = .nx e2 S2 ∨ b e1 S = .ct e2 S2) ∧ I ys e2 S2) : ∀ {ys : List D} {e : Env} {S : Sto}, I ys e S → ∃ e' S', forGo g t b ys e S = .nx e' S' ∧ I [] e' S'
  | [], e, S, h => ⟨e, S, forGo_nil (hg _ _ _ h), h⟩
  | y :: ys, e, S, h => by
    obtain ⟨e1, e2, S2, h1, h2, h3⟩ := hs y ys e S h
    obtain ⟨e', S', h4, h5⟩ := forGo_inv (xs := xs) I h0 hg hs h3
    refine ⟨e', S', ?_, h5⟩
    rw [forGo, if_pos (hg _ _ _ h), h1]
    rcases h2 with h2 | h2
    · simp only [h2]; exact h4
    · simp only [h2]; exact h4
end
theorem sz_lt {n : Nat} (h : n ≤ 1000) : FitS n = True := eq_true (L2.small1000 h)
theorem sz_le {n : Nat} (h : n ≤ 1000) : Fit n = True := eq_true (Nat.le_of_lt (L2.small1000 h))
/-- a comprehension whose turns leave the store as it is -/
theorem lcGo_map {t : Tg} {c : DenT} {elt : Den} {env : Env} {S : Sto} {g : Sto → Prop} (hg : g S) (f : D → D) : ∀ (xs acc : List D), acc.length + xs.length ≤ 1000 →
    (∀ x ∈ xs, ∃ e, t.run x env = some e ∧ c e S = .ok true S ∧ elt e S = .ok (f x) S) → lcGo g t c elt env xs acc S = .ok (acc ++ xs.map f) S
  | [], acc, _, _ => by rw [lcGo, if_pos hg, List.map_nil, List.append_nil]
  | x :: xs, acc, hl, h => by
    obtain ⟨e, h1, h2, h3⟩ := h x List.mem_cons_self
    rw [lcGo, if_pos hg, h1]
    simp only [h2, h3, if_true]
    rw [if_pos (of_eq_true (sz_lt (by simp only [List.length_cons] at hl; omega))), lcGo_map hg f xs (acc ++ [f x]) (by simp only [List.length_append, List.length_cons, List.length_nil] at hl ⊢; omega) fun y hy => h y (List.mem_cons_of_mem _ hy)]
    simp
theorem bools_rep (n : Nat) : boolsOf (List.replicate n (.bl true)) = some (List.replicate n true) := by
  induction n with
  | zero => rfl
  | succ n ih => rw [List.replicate_succ, boolsOf, ih]; rfl
theorem rngD_len (lo : Int) (n : Nat) : (rngD lo n).length = n := by simp [rngD]
theorem mem_rngD {lo : Int} {n : Nat} {x : D} (h : x ∈ rngD lo n) : ∃ i : Nat, i < n ∧ x = .int (lo + i) := by
  unfold rngD at h
  obtain ⟨i, hi, e⟩ := List.mem_map.mp h
  exact ⟨i, List.mem_range.mp hi, e.symm⟩
/-- data of None, truths, ints, texts and tuples, below a depth -/
def flatD' : Nat → D → Bool
  | _, .non => true
  | _, .bl _ => true
  | _, .int _ => true
  | _, .str _ => true
  | 0, .tup _ => false
  | n + 1, .tup xs => decide (xs.length ≤ 1000) && xs.all (flatD' n)
  | _, _ => false
theorem rok {n : Nat} (hn : n ≤ 1000) : Rok (n : Int) := by unfold Rok big; omega
theorem fRng1_eq {i : Int} {n : Nat} {S : Sto} (h : i = (n : Int)) (hn : n ≤ 1000) : fRng1 [.int i] S = .ok (rngD 0 n, fun _ => True) S := by
  subst h
  show (if Rok (n : Int) then R.ok (rngD 0 (n : Int).toNat, fun _ => True) S else .bad) = _
  rw [if_pos (rok hn), Int.toNat_natCast]
/-! ### sizes -/
/-- below 2 ^ k -/
def sm (k : Nat) (i : Int) : Prop := i.natAbs < 2 ^ k
section
variable {i j : Int} {a b : Nat}
theorem sm.mono (h : sm a i) (hb : a ≤ b) : sm b i := Nat.lt_of_lt_of_le h (Nat.pow_le_pow_right (by decide) hb)
theorem sm.mul (h : sm a i) (k : sm b j) : sm (a + b) (i * j) := by
  unfold sm at *
  rw [Int.natAbs_mul, Nat.pow_add]
  exact Nat.mul_lt_mul'' h k
theorem sm.add (h : sm a i) (k : sm a j) : sm (a + 1) (i + j) := by
  unfold sm at *
  rw [Nat.pow_succ]
  have := Int.natAbs_add_le i j
  omega
theorem sm.sub (h : sm a i) (k : sm a j) : sm (a + 1) (i - j) := by
  unfold sm at *
  rw [Nat.pow_succ]
  have := Int.natAbs_sub_le i j
  omega
theorem sm.ok (h : sm a i) (k : sm b j) (hs : a + b < 1000000) : MulOk i j := by
  have h' : sm (a + 1) i := h.mono (Nat.le_succ _)
  by_cases hb : b = 0
  · subst hb
    refine .inl (.inr ?_)
    unfold sm at k
    have : j = 0 := by
      have : j.natAbs < 1 := k
      omega
    subst this
    decide
  by_cases ha : a = 0
  · subst ha
    refine .inl (.inl ?_)
    unfold sm at h
    have : i = 0 := by
      have : i.natAbs < 1 := h
      omega
    subst this
    decide
  exact .inr (L2.wide_mul h k (by omega) (by omega) (by omega))
theorem sm.div (h : sm a i) (h0 : 0 < i) (ha : a ≤ 9000) : DivOk i := by
  by_cases hz : a = 0
  · subst hz
    unfold sm at h
    have : i.natAbs < 1 := h
    omega
  exact ⟨h0, Nat.lt_of_lt_of_le (PySem.Flt.log2_lt_of (by omega) h) ha⟩
theorem sm.le {k : Nat} (h : sm k j) (h0 : 0 ≤ i) (hi : i ≤ j) : sm k i := by
  unfold sm at *; omega
end
end Z
end

section
set_option Elab.async false
set_option linter.all false
set_option maxRecDepth 100000
set_option maxHeartbeats 1000000
namespace Z
noncomputable section
open PySem PySem.Spec PyProof.Rows L2
/-! ### + of ints, texts, tuples and lists -/
def fPlus (x y : D) (S : Sto) : R D := match x, y with
  | .int i, .int j => .ok (.int (i + j)) S
  | .str i, .str j => if Fit (i.length + j.length) then .ok (.str (i ++ j)) S else .bad
  | .tup xs, .tup ys => if Fit (xs.length + ys.length) then .ok (.tup (xs ++ ys)) S else .bad
  | x, y => match ownOf S x, ownOf S y with
    | some xs, some ys => mkL false (xs ++ ys) S
    | _, _ => .bad
def rPlus (K : PySem.W.Frag) : R2 := fun x y H Q => (rI0 fun i j => .int (i + j)) x y H Q ∨ (∃ i j, x = .str i ∧ y = .str j ∧ i.length + j.length ≤ sizeLine ∧ Q (.str (i ++ j)) H) ∨ rCatA K x y H Q ∨ rCat x y H Q
theorem oPlus {X : Cx} : OpR X (binaryOp .Add) (rPlus X.K) := op_add.or (op_add_str.or (op_catA.or op_cat))
section
variable {K : PySem.W.Frag}
theorem Rps.app {H : Hp} {ι : Em} : ∀ {vs ws : List V} {ds es : List D}, Rps K H ι vs ds → Rps K H ι ws es → Rps K H ι (vs ++ ws) (ds ++ es)
  | _, _, _, _, .nil, h => h
  | _, _, _, _, .cons r rs, h => .cons r (Rps.app rs h)
theorem sPlus : OpS K (rPlus K) fPlus := by
  intro mg W σ ι H S x y dx dy Q s rx ry p
  unfold fPlus at p
  split at p
  · obtain ⟨rfl, rfl⟩ := int2 rx ry
    exact .inl ⟨_, _, rfl, rfl, p.ret s (.int _)⟩
  · rename_i i j
    split at p
    · rename_i hl
      cases rx; cases ry
      exact .inr (.inl ⟨_, _, rfl, rfl, hl, p.ret s (.str _)⟩)
    · exact p.elim
  · rename_i xs ys
    split at p
    · rename_i hl
      obtain ⟨a, vs, rfl, h1, h2⟩ := rx.tup_inv
      obtain ⟨b, ws, rfl, k1, k2⟩ := ry.tup_inv
      refine .inr (.inr (.inl ⟨a, b, vs, ws, rfl, rfl, h1, k1, by rw [h2.length, k2.length]; exact hl, fun e => ?_, fun _ e => ?_, fun _ _ q hq => ?_⟩))
      · subst e
        cases h2
        exact p.ret s (by rw [List.nil_append]; exact ry)
      · subst e
        cases k2
        exact p.ret s (by rw [List.append_nil]; exact rx)
      · exact p _ _ _ (Ext.new hq) (s.new hq) (.tup (s.out hq) upd_same ((h2.app k2).ext (Ext.new hq)))
    · exact p.elim
  · split at p
    · rename_i xs ys e1 e2
      obtain ⟨a, vs, rfl, h1, h2⟩ := own_inv s rx e1
      obtain ⟨b, ws, rfl, k1, k2⟩ := own_inv s ry e2
      have q := p.mkL s (h2.app k2)
      exact .inr (.inr (.inr ⟨a, b, vs, ws, rfl, rfl, h1, k1, by rw [← List.length_append]; exact q.1, q.2⟩))
    · exact p.elim
/-! ### methods of texts -/
def fPart (x : D) (ys : List D) (S : Sto) : R D := match x, ys with
  | .str a, [.str b] => if (b.length == 0) = false ∧ Fit a.length then .ok (.tup [.str (Txt.partition a b).1, .str (Txt.partition a b).2.1, .str (Txt.partition a b).2.2]) S else .bad
  | _, _ => .bad
def fStarts (x : D) (ys : List D) (S : Sto) : R D := match x, ys with
  | .str a, [.str b] => .ok (.bl (Txt.startswith a b)) S
  | _, _ => .bad
def fFind (x : D) (ys : List D) (S : Sto) : R D := match x, ys with
  | .str a, [.str b] => .ok (.int (Txt.find a b)) S
  | _, _ => .bad
def fIsdig (x : D) (ys : List D) (S : Sto) : R D := match x, ys with
  | .str a, [] => .ok (.bl (Txt.isdigit a)) S
  | _, _ => .bad
def fIsasc (x : D) (ys : List D) (S : Sto) : R D := match x, ys with
  | .str a, [] => .ok (.bl (Txt.isascii a)) S
  | _, _ => .bad
theorem sPart : MzS K (fun x xs H Q => ∃ a b, x = .str a ∧ xs = [.str b] ∧ (b.length == 0) = false ∧ a.length ≤ sizeLine ∧ ∀ p, H p = none → Q (.ref p) (upd H p (.tup [.str (Txt.partition a b).1, .str (Txt.partition a b).2.1, .str (Txt.partition a b).2.2]))) fPart := by
  intro mg W σ ι H S x dx ys dys Q s r rs p
  unfold fPart at p
  split at p
  · split at p
    · rename_i h
      obtain ⟨u, rfl, ru⟩ := rps1 rs
      cases r; cases ru
      refine ⟨_, _, rfl, rfl, h.1, h.2, fun q hq => ?_⟩
      exact p _ _ _ (Ext.new hq) (s.new hq) (.tup (s.out hq) upd_same (.cons (.str _) (.cons (.str _) (.cons (.str _) .nil))))
    · exact p.elim
  · exact p.elim
theorem sStarts : MzS K (fun x xs H Q => ∃ a b, x = .str a ∧ xs = [.str b] ∧ Q (.bl (Txt.startswith a b)) H) fStarts := by
  intro mg W σ ι H S x dx ys dys Q s r rs p
  unfold fStarts at p
  split at p
  · obtain ⟨u, rfl, ru⟩ := rps1 rs
    cases r; cases ru
    exact ⟨_, _, rfl, rfl, p.ret s (.bl _)⟩
  · exact p.elim
theorem sFind : MzS K (fun x xs H Q => ∃ a b, x = .str a ∧ xs = [.str b] ∧ Q (.int (Txt.find a b)) H) fFind := by
  intro mg W σ ι H S x dx ys dys Q s r rs p
  unfold fFind at p
  split at p
  · obtain ⟨u, rfl, ru⟩ := rps1 rs
    cases r; cases ru
    exact ⟨_, _, rfl, rfl, p.ret s (.int _)⟩
  · exact p.elim
theorem sIsdig : MzS K (fun x xs H Q => ∃ a, x = .str a ∧ xs = [] ∧ True ∧ Q (.bl (Txt.isdigit a)) H) fIsdig := by
  intro mg W σ ι H S x dx ys dys Q s r rs p
  unfold fIsdig at p
  split at p
  · cases r; cases rs
    exact ⟨_, rfl, rfl, trivial, p.ret s (.bl _)⟩
  · exact p.elim
theorem sIsasc : MzS K (fun x xs H Q => ∃ a, x = .str a ∧ xs = [] ∧ True ∧ Q (.bl (Txt.isascii a)) H) fIsasc := by
  intro mg W σ ι H S x dx ys dys Q s r rs p
  unfold fIsasc at p
  split at p
  · cases r; cases rs
    exact ⟨_, rfl, rfl, trivial, p.ret s (.bl _)⟩
  · exact p.elim
/-! ### str(n), int(text) -/
def LogOk (i : Int) : Prop := i.natAbs.log2 < 1920
noncomputable instance (i : Int) : Decidable (LogOk i) := Classical.propDecidable _
def fStr (xs : List D) (S : Sto) : R D := match xs with
  | [.int i] => if LogOk i then .ok (.str (toString i)) S else .bad
  | [.str a] => .ok (.str a) S
  | _ => .bad
def fIntT (xs : List D) (S : Sto) : R D := match xs with
  | [.int i] => .ok (.int i) S
  | [.bl b] => .ok (.int (if b then 1 else 0)) S
  | [.str a] => match PySem.intText? a with
    | some n => if a.length ≤ 640 then .ok (.int n) S else .bad
    | none => .bad
  | _ => .bad
theorem callr_or {X : Cx} {f : Value} {r r' : List V → Hp → VK → Prop} (h : CallR X f r) (h' : CallR X f r') : CallR X f (fun xs H Q => r xs H Q ∨ r' xs H Q) := fun pins s σ H xs us Q I rs q => by
  rcases q with q | q
  · exact h pins s σ H xs us Q I rs q
  · exact h' pins s σ H xs us Q I rs q
def rStr (xs : List V) (H : Hp) (Q : VK) : Prop := (∃ i, xs = [.int i] ∧ i.natAbs.log2 < 1920 ∧ Q (.str (toString i)) H) ∨ (∃ a, xs = [.str a] ∧ Q (.str a) H)
theorem cr_str {X : Cx} : CallR X (.type "str") rStr := callr_or call_str_int SkE.call_str_str
theorem sStr : CbS K rStr fStr := by
  intro mg W σ ι H S xs ds Q s r p
  unfold fStr at p
  split at p
  · split at p
    · rename_i h
      obtain ⟨x, rfl, r1⟩ := rps1 r
      cases r1; exact .inl ⟨_, rfl, h, p.ret s (.str _)⟩
    · exact p.elim
  · obtain ⟨x, rfl, r1⟩ := rps1 r
    cases r1; exact .inr ⟨_, rfl, p.ret s (.str _)⟩
  · exact p.elim
def rIntT (xs : List V) (H : Hp) (Q : VK) : Prop := ((∃ i, xs = [.int i] ∧ Q (.int i) H) ∨ ∃ k, xs = [.bl k] ∧ Q (.int (if k then 1 else 0)) H) ∨ (∃ a n, xs = [.str a] ∧ PySem.intText? a = some n ∧ a.length ≤ 640 ∧ Q (.int n) H)
theorem cr_intT {X : Cx} : CallR X (.type "int") rIntT := callr_or call_int1 call_int_str
theorem sIntT : CbS K rIntT fIntT := by
  intro mg W σ ι H S xs ds Q s r p
  unfold fIntT at p
  split at p
  · obtain ⟨x, rfl, r1⟩ := rps1 r
    cases r1; exact .inl (.inl ⟨_, rfl, p.ret s (.int _)⟩)
  · obtain ⟨x, rfl, r1⟩ := rps1 r
    cases r1; exact .inl (.inr ⟨_, rfl, p.ret s (.int _)⟩)
  · split at p
    · rename_i n e
      split at p
      · rename_i h
        obtain ⟨x, rfl, r1⟩ := rps1 r
        cases r1; exact .inr ⟨_, n, rfl, e, h, p.ret s (.int _)⟩
      · exact p.elim
    · exact p.elim
  · exact p.elim
end
/-! ### f-strings -/
def fFmt (x : D) (S : Sto) : R D := match x with
  | .str y => if Fit y.length then .ok (.str y) S else .bad
  | .int i => if LogOk i then .ok (.str (toString i)) S else .bad
  | _ => .bad
def dFmt (d : Den) : Den := fun env S => (d env S).bind fFmt
def dJs : List Den → Str → Den
  | [], acc => fun _ S => .ok (.str acc) S
  | d :: ds, acc => fun env S => (d env S).bind fun x S1 => match x with
    | .str y => if Fit (acc ++ y).length then dJs ds (acc ++ y) env S1 else .bad
    | _ => .bad
section
variable {X : Cx} {W : WX} {e : Expr} {es : List Expr} {d : Den} {ds : List Den} {pos : Pos}
theorem e_fmt (h : EE X W e d) : EE X W (.FormattedValue e (-1) none pos) (dFmt d) := PE.imp (pe_fmt h) fun σ H Q h => by
  obtain ⟨ι, env, S, s, er, p⟩ := h
  refine ⟨ι, env, S, s, er, (Post.bind (Rel' := Rp X.K) p).mono ?_⟩
  rintro x H1 ⟨ι1, dx, S1, e1, s1, r1, p1⟩
  unfold fFmt at p1
  split at p1
  · split at p1
    · rename_i hl
      cases r1; exact .inl ⟨_, rfl, hl, p1.ret s1 (.str _)⟩
    · exact p1.elim
  · split at p1
    · rename_i hl
      cases r1; exact .inr ⟨_, rfl, hl, p1.ret s1 (.str _)⟩
    · exact p1.elim
  · exact p1.elim
abbrev JJ (X : Cx) (W : WX) (es : List Expr) (ds : List Den) : Prop := PJ X es (ds.map (rd X.K X.mg W))
theorem j_nil : JJ X W [] [] := .nil
theorem j_cons (h : EE X W e d) (r : JJ X W es ds) : JJ X W (e :: es) (d :: ds) := .cons h r
theorem tJs_of {K : PySem.W.Frag} {mg : Str → Option Value} {σ : L2.St} {Q : VK} : ∀ (ds : List Den) (acc : Str) (H : Hp), rd K mg W (dJs ds acc) σ H Q → tJs (ds.map (rd K mg W)) acc σ H fun out H1 => Q (.str out) H1
  | [], acc, H, h => by
    obtain ⟨ι, env, S, s, er, p⟩ := h
    exact p.ret s (.str _)
  | d :: ds, acc, H, h => by
    obtain ⟨ι, env, S, s, er, p⟩ := h
    refine ⟨ι, env, S, s, er, (Post.bind (Rel' := Rp K) p).mono ?_⟩
    rintro x H1 ⟨ι1, dx, S1, e1, s1, r1, p1⟩
    split at p1
    · rename_i y
      split at p1
      · rename_i hl
        cases r1
        exact ⟨_, rfl, hl, tJs_of ds (acc ++ y) H1 ⟨ι1, env, S1, s1, er.ext e1, p1⟩⟩
      · exact p1.elim
    · exact p1.elim
theorem e_joined {v1 v2 : Expr} {rest : List Expr} (h : JJ X W (v1 :: v2 :: rest) ds) : EE X W (.JoinedStr (v1 :: v2 :: rest) pos) (dJs ds Str.empty) := PE.imp (pe_joined h) fun σ H Q h => tJs_of ds Str.empty H h
theorem e_joined1 (h : EE X W e d) : EE X W (.JoinedStr [e] pos) d := pe_joined1 h
end
/-! ### walking a text, a list or a tuple -/
def sgn (c : Nat) : D := .str ⟨#[c]⟩
def asAny (x : D) (S : Sto) : R (List D × (Sto → Prop)) := match x with
  | .str z => .ok (z.cps.toList.map sgn, fun _ => True) S
  | x => asSeq x S
def iAny (d : Den) : DenI := fun env S => (d env S).bind asAny
section
variable {X : Cx} {W : WX} {tg l : Expr} {tl : Den}
theorem txt_ok {K : PySem.W.Frag} {z : Str} {ι : Em} {H : Hp} : ItOk K (Its z) (z.cps.toList.map sgn) (fun _ => True) ι H := by
  refine ⟨fun ι2 H2 S2 i x e2 s2 _ hx => ?_, fun ι2 H2 S2 _ _ _ => by show z.cps.size ≤ _; simp⟩
  have hi : i < z.cps.size := by
    have := (List.getElem?_eq_some_iff.mp hx).1
    simpa using this
  refine ⟨hi, fun v H3 y => ?_⟩
  obtain ⟨rfl, c, hc, rfl⟩ := y
  refine ⟨Ext.refl, s2, ?_⟩
  rw [List.getElem?_map, Array.getElem?_toList, hc] at hx
  cases hx
  exact .str _
theorem pi_or {t t' : TI} (h : PI X tg l t) (h' : PI X tg l t') : PI X tg l (fun σ H R => t σ H R ∨ t' σ H R) := ⟨fun pins s σ H R I q => by
  rcases q with q | q
  · exact h.run pins s σ H R I q
  · exact h'.run pins s σ H R I q⟩
def iTxt (d : Den) : DenI := fun env S => (d env S).bind fun x S1 => match x with
  | .str z => .ok (z.cps.toList.map sgn, fun _ => True) S1
  | _ => .bad
theorem i_txt (hl : EE X W l tl) : II X W tg l (iTxt tl) := PI.imp (pi_str hl) fun σ H R h => by
  obtain ⟨ι, env, S, s, er, p⟩ := h
  refine ⟨ι, env, S, s, er, (Post.bind (Rel' := Rp X.K) p).mono ?_⟩
  rintro x H1 ⟨ι1, dx, S1, e1, s1, r1, p1⟩
  split at p1
  · cases r1
    exact ⟨_, rfl, p1 ι1 H1 _ Ext.refl s1 txt_ok⟩
  · exact p1.elim
theorem i_any (hl : EE X W l tl) : II X W tg l (iAny tl) := PI.imp (pi_or (i_txt hl) (i_seq hl)) fun σ H R h => by
  obtain ⟨ι, env, S, s, er, p⟩ := h
  unfold iAny at p
  cases e : tl env S with
  | ok x S1 =>
    rw [e] at p
    cases x with
    | str z => exact .inl ⟨ι, env, S, s, er, by unfold iTxt; rw [e]; exact p⟩
    | _ => exact .inr ⟨ι, env, S, s, er, by unfold iSeq; rw [e]; exact p⟩
  | ex c fs S1 => exact .inr ⟨ι, env, S, s, er, by unfold iSeq; rw [e]; rw [e] at p; exact p⟩
  | bad => exact .inr ⟨ι, env, S, s, er, by unfold iSeq; rw [e]; rw [e] at p; exact p⟩
end
/-! ### in: an item of a list or tuple, a sign of a text -/
def fInT (neg : Bool) (x y : D) (S : Sto) : R D := match y with
  | .str z => match x with
    | .str w => match w.cps.toList with
      | [c] => .ok (.bl (if neg then !decide (c ∈ z.cps.toList) else decide (c ∈ z.cps.toList))) S
      | _ => .bad
    | _ => .bad
  | y => fIn neg x y S
def rInT (K : PySem.W.Frag) (neg : Bool) : R2 := fun x y H Q => rIn K neg x y H Q ∨ (∃ (c : Nat) (z : Str), x = .str ⟨#[c]⟩ ∧ y = .str z ∧ Q (.bl (if neg then !decide (c ∈ z.cps.toList) else decide (c ∈ z.cps.toList))) H)
theorem oInT {X : Cx} : OpR X (compareOp .In) (rInT X.K false) := op_in_seq.or op_in_sign
theorem oNotInT {X : Cx} : OpR X (compareOp .NotIn) (rInT X.K true) := op_notIn_seq.or op_notIn_sign
theorem sInT {K : PySem.W.Frag} {neg : Bool} : OpS K (rInT K neg) (fInT neg) := by
  intro mg W σ ι H S x y dx dy Q s rx ry p
  unfold fInT at p
  split at p
  · split at p
    · rename_i w
      split at p
      · rename_i c hc
        cases rx; cases ry
        have hw : w = ⟨#[c]⟩ := by
          cases w with | mk a => cases a with | mk l => simp only at hc; rw [hc]
        exact .inr ⟨c, _, by rw [hw], rfl, p.ret s (.bl _)⟩
      · exact p.elim
    · exact p.elim
  · exact .inl (sIn mg W σ ι H S x y _ _ Q s rx ry p)
/-! ### a text times a number -/
def rMulS : R2 := fun x y H Q => ∃ (a : Str) (k : Int), x = .str a ∧ y = .int k ∧ 2 ≤ k ∧ k ≤ 10000 ∧ 1 ≤ a.length ∧ a.length ≤ 1000 ∧ Q (.str ⟨(List.replicate k.toNat a.cps).foldl (· ++ ·) #[]⟩) H
theorem rep_size (a : Array Nat) : ∀ (n : Nat) (acc : Array Nat), ((List.replicate n a).foldl (· ++ ·) acc).size = acc.size + n * a.size
  | 0, acc => by simp
  | n + 1, acc => by
    rw [List.replicate_succ, List.foldl_cons, rep_size a n, Array.size_append, Nat.succ_mul]
    omega
theorem op_mulS {X : Cx} : OpR X (binaryOp .Mult) rMulS := by
  intro pins s σ H x y v u Q I rx ry h
  obtain ⟨a, k, rfl, rfl, k2, kk, a1, aa, q⟩ := h
  obtain ⟨t, rfl⟩ := rx
  obtain ⟨t', rfl⟩ := ry
  have n1 : ¬ k < 1 := by omega
  have e1 : (k == 1 || a.length == 0) = false := by
    have h1 : (k == 1) = false := by simp; omega
    have h2 : (a.length == 0) = false := by simp; omega
    rw [h1, h2]; rfl
  have l : a.length * k.toNat ≤ sizeLine := by
    have : a.length * k.toNat ≤ 1000 * 10000 := Nat.mul_le_mul aa (by omega)
    exact Nat.le_trans this (by decide)
  refine PySem.P.mul_str ?_ (fun _ _ => ?_) (fun _ _ => ?_) ?_
  · rw [decide_eq_false (by omega), decide_eq_false (by omega)]; rfl
  · have : k * 1000 ≤ 2 ^ 63 - 1 := by omega
    have := (Int.le_ediv_iff_mul_le (by omega : 0 < k)).mpr (by omega : 1000 * k ≤ 2 ^ 63 - 1)
    omega
  · unfold PySem.Builtin.Str.tooLong
    rw [decide_eq_false (by omega)]
  · rw [if_neg n1, e1]
    refine ⟨?_, ?_⟩
    · show Array.size _ ≤ _
      rw [rep_size, Array.size_empty, Nat.zero_add, Nat.mul_comm]
      exact l
    · exact ⟨.str _, H, I.tok _, ⟨_, rfl⟩, q⟩
def repS (a : Str) (k : Int) : Str := ⟨(List.replicate k.toNat a.cps).foldl (· ++ ·) #[]⟩
def fMulS (x y : D) (S : Sto) : R D := match x, y with
  | .str a, .int k => if 2 ≤ k ∧ k ≤ 10000 ∧ 1 ≤ a.length ∧ a.length ≤ 1000 then .ok (.str (repS a k)) S else .bad
  | _, _ => .bad
theorem sMulS {K : PySem.W.Frag} : OpS K rMulS fMulS := by
  intro mg W σ ι H S x y dx dy Q s rx ry p
  unfold fMulS at p
  split at p
  · split at p
    · rename_i h
      cases rx; cases ry
      exact ⟨_, _, rfl, rfl, h.1, h.2.1, h.2.2.1, h.2.2.2, p.ret s (.str _)⟩
    · exact p.elim
  · exact p.elim
end
end Z
end

section
set_option Elab.async false
set_option linter.all false
set_option maxRecDepth 100000
set_option maxHeartbeats 1000000
namespace Z
noncomputable section
open PySem PySem.Spec PyProof.Rows L2
/-! ### enumerate(tuple, start=k): a pair (k + i, item) at turn i -/
/-- the i-th item of the tuple at a -/
def AtT (K : PySem.W.Frag) (a : Addr) (i : Nat) (H : Hp) (x : V) : Prop := ∀ ys, SqT K H a ys → ys[i]? = some x
def ItEn (K : PySem.W.Frag) (a : Addr) (k : Int) : It where
  go i H := ∃ ys y, SqT K H a ys ∧ ys[i]? = some y
  yld i H v H' := ∃ q y, v = V.ref q ∧ H q = none ∧ H' = upd H q (.tup [.int (k + (i : Nat)), y]) ∧ AtT K a i H y
  stop i H := ∃ ys : List V, SqT K H a ys ∧ ys.length = i
structure EnSt (a e j : Addr) (k : Int) (i : Nat) (h : Heap) : Prop where
  en : ∃ last, IsEnum h e j (k + (i : Nat)) last
  tu : h.IsTupleIter j a i
theorem EnSt.old {a e j b : Addr} {k : Int} {i : Nat} {h : Heap} (z : EnSt a e j k i h) (hb : b ∈ [e, j]) : ∃ o, h.get? b = some o ∧ ∀ v, o.data ≠ .cell v := by
  obtain ⟨⟨last, h1⟩, o, h2, _, h3⟩ := z
  simp only [List.mem_cons, List.not_mem_nil, or_false] at hb
  rcases hb with rfl | rfl
  · exact ⟨_, h1, fun _ q => nomatch q⟩
  · exact ⟨o, h2, fun v q => by rw [h3] at q; cases q⟩
theorem EnSt.lt {a e j b : Addr} {k : Int} {i : Nat} {h : Heap} (z : EnSt a e j k i h) (hb : b ∈ [e, j]) : b < h.objs.size := by
  obtain ⟨o, ho, _⟩ := z.old hb
  exact Heap.lt_size ho
theorem turn_en {P : Program} {w : World} {K : PySem.W.Frag} {es : List Expr} {nn : Nat} {tp : Pos} {k : Int} {a e j : Addr} (n1 : a ≠ j) (n2 : e ≠ a) (n3 : e ≠ j) :
    Turn P w K (.Tuple es nn tp) (ItEn K a k) [e, j] e (EnSt a e j k) := by
  have me : e ∈ [e, j] := by simp
  have mj : j ∈ [e, j] := by simp
  refine ⟨me, fun i h z b hb => z.old hb, fun i h h' z kp => ?_, ?_, ?_, fun A i s Q E z q => ?_⟩
  · obtain ⟨⟨last, h1⟩, h2⟩ := z
    exact ⟨⟨last, kp e me _ h1⟩, h2.at fun o q => kp j mj o q⟩
  · rintro X rfl rfl rfl hc i pins s σ H E I free z ⟨ys, y, sq, hy⟩
    obtain ⟨its, rv, isT, _⟩ := I.tuple sq
    obtain ⟨u, hu, ru⟩ := rv.get hy
    have hu2 : its.toArray[i]? = some u := by rw [List.getElem?_toArray]; exact hu
    have hlt : i < its.toArray.size := (Array.getElem?_eq_some_iff.mp hu2).1
    have hd : X.A.in1.in1.handled = none := I.ok.hd hc
    have dr := Draws.tuple (prog := X.prog) (w := X.w) (A := X.A.in1) hd j a n1 its.toArray
    obtain ⟨last, en⟩ := z.en
    have le := z.lt me
    have lj := z.lt mj
    refine wpAny_pyNext_enum_itemC dr en ⟨z.tu, isT⟩ hlt n3 (by simp [n2, n3]) fun x g1 tk hx out st1 tup sz kp => ?_
    obtain rfl : u = x := Option.some.inj (hu2.symm.trans hx)
    refine ⟨_, rfl, ?_⟩
    refine wpAny_letOwnedTupleGo_enum (s := ⟨g1, s.gens, s.drawn, tk + 1, s.os⟩) out fun g2 en2 sb => ?_
    have tup2 : g2.get? s.heap.objs.size = some { cls := .type "tuple", data := .seq #[.int (k + (i : Nat)) tk, u] } := (sb.2 _ (Nat.ne_of_gt le)).trans tup
    have fresh := I.hok.fresh (Nat.le_refl s.heap.objs.size)
    have pr : Vals [.int (k + (i : Nat)), y] [.int (k + (i : Nat)) tk, u] := .cons ⟨tk, rfl⟩ (.cons ru .nil)
    have keep2 : ∀ b o, b ∉ [e, j] → s.heap.get? b = some o → g2.get? b = some o := fun b o hb q => by
      simp only [List.mem_cons, List.not_mem_nil, or_false, not_or] at hb
      rw [sb.2 b hb.1]
      exact kp b o hb.1 hb.2 q
    have I2 := I.turnedNew (t' := tk + 1) (ob := .tup [.int (k + (i : Nat)), y]) keep2 free (Nat.le_refl _) ⟨(by decide : 2 ≤ sizeLine), _, pr, ⟨_, tup2, rfl, _, rfl⟩⟩
    refine ⟨V.ref s.heap.objs.size, _, I2, rfl, ⟨_, y, rfl, fresh, rfl, fun ys' sq' => by rw [I.tuple_inj sq' sq, hy]⟩, ⟨⟨u, ?_⟩, ?_⟩, fun b hb => ?_⟩
    · have ei : (k + (i : Nat)) + 1 = k + ((i + 1 : Nat) : Int) := by omega
      rw [← ei]; exact en2
    · exact st1.1.at fun o q => by rw [sb.2 j (Ne.symm n3)]; exact q
    · have := z.lt hb
      rw [upd_ne (Nat.ne_of_lt this)]
      exact (free b hb).1
  · rintro X rfl rfl rfl hc i pins s σ H E I free z ⟨ys, sq, hl⟩
    obtain ⟨its, rv, isT, _⟩ := I.tuple sq
    have hd : X.A.in1.in1.handled = none := I.ok.hd hc
    have hn : its.toArray.size = i := by rw [List.size_toArray, ← rv.length, hl]
    have dr := Draws.tuple (prog := X.prog) (w := X.w) (A := X.A.in1) hd j a n1 its.toArray
    obtain ⟨last, en⟩ := z.en
    have tu := z.tu
    rw [← hn] at tu en
    refine wpAny_pyNext_enum_endD dr en ⟨tu, isT⟩ fun g2 kp => ⟨rfl, ?_⟩
    obtain ⟨f0, f1, f2, f3, f4, f5⟩ := free j mj
    exact I.turned (t' := s.toks) kp f0 f1 f3 f4 f5
  · obtain ⟨⟨last, h1⟩, _⟩ := z
    exact wpAny_pyIter_enum h1 q
end
end Z
end

section
set_option Elab.async false
set_option linter.all false
set_option maxRecDepth 100000
set_option maxHeartbeats 1000000
namespace Z
noncomputable section
open PySem PySem.Spec PyProof.Rows L2
/-- what enumerate(v, ..) from k on lays down -/
def EnOb (j : Addr) (k : Int) : Obj := { cls := .type "enumerate", data := .fields #[.none, .bool false, .ref j, rawInt k, .none, .none] }
theorem meets_en1 {v : Value} {o : Obj} {Hh : Heap → Prop} (B : Begins v o Hh) :
    Meets (Builtin.«enumerate.__new__» ⟨[.type "enumerate", v], []⟩) (fun _ R s => Hh s.heap ∧ R (.ok (.ret (.ref (s.heap.push o).objs.size))) { s with heap := (s.heap.push o).push (EnOb s.heap.objs.size 0) }) :=
  .of_wp fun prog w A R s ⟨h1, h⟩ => by
    obtain ⟨hp, g, d, tk, os⟩ := s
    have sub := sub_enumerate
    have q1 : ∀ {A' : Around} {E : Value → Shared → Prop} {Q : Value → Shared → Prop}, Q (.ref hp.objs.size) ⟨hp.push o, g, d, tk, os⟩ → wpAny (model prog w) A' (pyIter v) Q E ⟨hp, g, d, tk, os⟩ := fun q => B.iter prog w _ _ ⟨hp, g, d, tk, os⟩ _ h1 q
    wp_walk using q1
    refine wpAny_stack_any (fun _ => wpAny_pure ?_)
    split
    · rename_i cc _ _ _ _ _
      cases (cc == Value.type "enumerate") <;> (wp_walk using q1; exact ⟨_, rfl, h⟩)
    · (wp_walk using q1; exact ⟨_, rfl, h⟩)
section
variable {P : Program} {w : World} {A : Around} {E : Value → Shared → Prop} {s : Shared}
/-- what stands behind enumerate(v, ..): its two cells -/
structure EnBeg (s : Shared) (o : Obj) (k : Int) (h' : Heap) : Prop where
  en : IsEnum h' (s.heap.objs.size + 1) s.heap.objs.size k .none
  it : h'.get? s.heap.objs.size = some o
  kp : ∀ b o, s.heap.get? b = some o → h'.get? b = some o
theorem call_en1 {v : Value} {o : Obj} {Hh : Heap → Prop} {Q : Value → Shared → Prop} (B : Begins v o Hh) (h1 : Hh s.heap) (q : ∀ h', EnBeg s o 0 h' → Q (.ref (s.heap.objs.size + 1)) { s with heap := h' }) :
    wpAny (model P w) A (call (.type "enumerate") [v]) Q E s := by
  have z1 : (s.heap.push o).objs.size = s.heap.objs.size + 1 := Heap.size_push ..
  have q2 : Q (.ref (s.heap.push o).objs.size) { s with heap := (s.heap.push o).push (EnOb s.heap.objs.size 0) } := by
    rw [z1]
    refine q _ ⟨?_, Heap.get?_push_of_some _ (Heap.get?_push_size _ B.free), fun b u e => Heap.get?_push_of_some _ (Heap.get?_push_of_some _ e)⟩
    have g := Heap.get?_push_size (s.heap.push o) (o := EnOb s.heap.objs.size 0) rfl
    rw [z1] at g
    exact g
  exact callType_new F.called_enumerate (by decide) (F.typeCall_enumerate_1 _) (F.newCall_enumerate_1 _) (fun obj => F.args_object_init_2 obj _) F.entry_enumerate_new (meets_en1 B) ⟨h1, ⟨⟨_, Heap.get?_push_size _ rfl, rfl⟩, q2⟩⟩
theorem call_enk {v : Value} {o : Obj} {Hh : Heap → Prop} {k : Int} {t : Tok} {Q : Value → Shared → Prop} (B : Begins v o Hh) (h1 : Hh s.heap) (k0 : -(2 ^ 63) ≤ k) (k1 : k < 2 ^ 63) (q : ∀ h', EnBeg s o k h' → Q (.ref (s.heap.objs.size + 1)) { s with heap := h' }) :
    wpAny (model P w) A (call (.type "enumerate") [v] [(Str.ofString "start", .int k t)]) Q E s :=
  enum_begins_start B h1 k0 k1 fun h' a b _ d => q h' ⟨a, b, d⟩
end
end
end Z
end

section
set_option Elab.async false
set_option linter.all false
set_option maxRecDepth 100000
set_option maxHeartbeats 1000000
namespace Z
noncomputable section
open PySem PySem.Spec PyProof.Rows L2
section
variable {M : Model} {A : Around} {E : Value → Shared → Prop} {s : Shared}
/-- a type called with keywords -/
theorem type_kw {pos : Pos} {T : String} {as : List (Bool × Sem Value)} {ks : List (Option Str × Sem Value)} {Q : Value → Shared → Prop} (n1 : as.any (·.1) = false) (n2 : ks.any (·.1.isNone) = false)
    (h : wpAny M A (evalArgs (.type T) true as ks) (fun a s1 => wpAny M A (call (.type T) a.pos a.kw) Q E s1) E s) : wpAny M A (callWith pos (.type T) [] as ks) Q E s := by
  unfold callWith
  refine wpAny_bind (wpAny_holding (wpAny_mono h (fun a s1 h1 => ?_) fun _ _ x => x))
  refine wpAny_bind (wpAny_standAt ?_)
  simp only [n1, n2, Bool.or_false]
  exact wpAny_bind (wpAny_pure (wpAny_bind (wpAny_mono h1 (fun r s2 hr => wpAny_bind (wpAny_holding (wpAny_point (wpAny_pure hr)))) fun _ _ x => x)))
end
section
variable {X : Cx} {e : Expr} {ta tk : TA} {p pos tpos kp : Pos} {es : List Expr} {kk : Nat} {kx : Expr}
def iEnT (K : PySem.W.Frag) (k : Int) (ta : TA) : TI := fun σ H R => ta σ H fun vs H1 => ∃ a xs, vs = [V.ref a] ∧ SqT K H1 a xs ∧ R (ItEn K a k) H1
theorem en_go {pins : List (Addr × Obj)} {s : Shared} {σ : L2.St} {H : Hp} {k : Int} {a : Addr} {xs : List V} {R : It → Hp → Prop} {its : Array Value} {h' : Heap} (I : Inv X pins σ H s) (sq : SqT X.K H a xs) (isT : s.heap.IsTuple a its)
    (B : EnBeg s { cls := .type "tuple_iterator", data := .fields #[.ref a, .int 0 0] } k h') (q : R (ItEn X.K a k) H) :
    wpAny (model X.prog X.w) X.A (pyIter (.ref (s.heap.objs.size + 1))) (PIE X pins σ (.Tuple es kk tpos) R) X.xe { s with heap := h' } := by
  have la : a < s.heap.objs.size := by obtain ⟨_, g, _⟩ := isT; exact Heap.lt_size g
  have I2 : Inv X pins σ H { s with heap := h' } := I.kept (t' := s.toks) B.kp
  have st0 : EnSt a (s.heap.objs.size + 1) s.heap.objs.size k 0 h' := ⟨⟨.none, by have := B.en; simpa using this⟩, ⟨_, B.it, rfl, rfl⟩⟩
  refine wpAny_pyIter_enum B.en ⟨s.heap.objs.size + 1, [s.heap.objs.size + 1, s.heap.objs.size], _, _, H, rfl, I2, turn_en (Nat.ne_of_lt la) (Nat.ne_of_gt (Nat.lt_succ_of_lt la)) (Nat.succ_ne_self _), st0, fun b hb => ?_, q⟩
  have hle : s.heap.objs.size ≤ b := by
    rcases List.mem_cons.mp hb with z | z
    · rw [z]; exact Nat.le_add_right _ _
    · rw [List.mem_singleton.mp z]; exact Nat.le_refl _
  exact I.fpOk hle (I.hok.fresh hle)
theorem pi_enT (hg : Gl X "enumerate") (hm : X.mg "enumerate" = none) (ha : PA X [e] ta) (hs : starEach [e] X.env = [(false, eval e X.env)] := by rfl) :
    PI X (.Tuple es kk tpos) (.Call (.Name "enumerate" p) [e] [] pos) (iEnT X.K 0 ta) := by
  refine ⟨fun pins s σ H R I h => Call_ (ld_blt I hg hm boot_enumerate (callWith_type1 (thn (ha.run pos pins s σ H _ I h) fun us s1 ⟨vs, H1, I1, r1, a, xs, ev, sq, q⟩ => ?_) hs rfl))⟩
  subst ev
  obtain ⟨u, rfl, ru⟩ := r1.one
  cases ru
  obtain ⟨its, rv, isT, _⟩ := I1.tuple sq
  exact call_en1 (begins_tuple a its.toArray) isT fun h' B => en_go I1 sq isT B q
theorem pi_enK {k : Int} (k0 : -(2 ^ 63) ≤ k) (k1 : k < 2 ^ 63) (hg : Gl X "enumerate") (hm : X.mg "enumerate" = none) (ha : PA X [e] ta) (hk : PK X [⟨some "start", kx, kp⟩] (fun σ H Q => Q [V.int k] H))
    (he : backTo pos (starEach [e] X.env) = (false, eval e X.env) :: backTo pos (starEach [] X.env) := by rfl) (hp : (backTo pos (starEach [e] X.env)).any (·.1) = false := by rfl)
    (h1 : (backToKw pos (keywordEach [⟨some "start", kx, kp⟩] X.env)).all (·.1.isSome) = true := by rfl) (h2 : (backToKw pos (keywordEach [⟨some "start", kx, kp⟩] X.env)).any (·.1.isNone) = false := by rfl) (h3 : (backToKw pos (keywordEach [⟨some "start", kx, kp⟩] X.env)).filterMap (·.1) = [Str.ofString "start"] := by rfl) :
    PI X (.Tuple es kk tpos) (.Call (.Name "enumerate" p) [e] [⟨some "start", kx, kp⟩] pos) (iEnT X.K k ta) := by
  refine ⟨fun pins s σ H R I h => wpAny_Call_Name_kw (ld_blt I hg hm boot_enumerate (type_kw hp h2 ?_))⟩
  rw [he]
  refine evalArgs_kwB h1 ?_
  rw [← he]
  refine thn (ha.run pos pins s σ H _ I h) fun us s1 ⟨vs, H1, I1, r1, a, xs, ev, sq, q⟩ => ?_
  refine thn (hk.run pos pins s1 σ H1 (fun zs H2 => zs = [V.int k] ∧ H2 = H1) I1 ⟨rfl, rfl⟩) fun ws s2 ⟨zs, H2, I2, r2, ez, eH⟩ => ?_
  subst ev ez eH
  rw [h3]
  obtain ⟨u, rfl, ru⟩ := r1.one
  obtain ⟨v, rfl, rv2⟩ := r2.one
  cases ru
  obtain ⟨t, rfl⟩ := rv2
  obtain ⟨its, rv, isT, _⟩ := I2.tuple sq
  exact call_enk (begins_tuple a its.toArray) isT k0 k1 fun h' B => en_go I2 sq isT B q
end
end
end Z
end

section
set_option Elab.async false
set_option linter.all false
set_option maxRecDepth 100000
set_option maxHeartbeats 1000000
namespace Z
noncomputable section
open PySem PySem.Spec PyProof.Rows L2
/-! ### enumerate -/
def enuD : Int → List D → List D
  | _, [] => []
  | k, x :: xs => .tup [.int k, x] :: enuD (k + 1) xs
theorem enuD_get : ∀ (xs : List D) (k : Int) (i : Nat), (enuD k xs)[i]? = (xs[i]?).map fun x => .tup [.int (k + (i : Nat)), x]
  | [], k, i => by simp [enuD]
  | x :: xs, k, 0 => by simp [enuD]
  | x :: xs, k, i + 1 => by
    have h := enuD_get xs (k + 1) i
    simp only [enuD, List.getElem?_cons_succ, h]
    congr 1
    funext y
    have : k + 1 + (i : Int) = k + ((i + 1 : Nat) : Int) := by omega
    rw [this]
theorem enuD_len : ∀ (xs : List D) (k : Int), (enuD k xs).length = xs.length
  | [], _ => rfl
  | x :: xs, k => by simp only [enuD, List.length_cons, enuD_len xs]
def iEn (k : Int) (d : Den) : DenI := fun env S => (d env S).bind fun x S1 => match x with
  | .tup xs => .ok (enuD k xs, fun _ => True) S1
  | _ => .bad
section
variable {X : Cx} {W : WX} {e : Expr} {es : List Expr} {d : Den} {da : DenA} {pos p tpos kp : Pos} {kk : Nat} {kx : Expr}
theorem en_ok {K : PySem.W.Frag} {ι : Em} {H : Hp} {a : Addr} {k : Int} {xs : List D} (r : Rp K H ι (.ref a) (.tup xs)) : ItOk K (ItEn K a k) (enuD k xs) (fun _ => True) ι H := by
  have get : ∀ (ι2 : Em) (H2 : Hp), Ext ι H ι2 H2 → ∃ vs, SqT K H2 a vs ∧ Rps K H2 ι2 vs xs := fun ι2 H2 e => by
    obtain ⟨b, vs, eb, sq, rs⟩ := (r.ext e).tup_inv
    cases eb
    exact ⟨vs, sq, rs⟩
  refine ⟨fun ι2 H2 S2 i x e s _ hx => ?_, fun ι2 H2 S2 e s _ => ?_⟩
  · obtain ⟨vs, sq, rs⟩ := get ι2 H2 e
    rw [enuD_get] at hx
    cases hy : xs[i]? with
    | none => rw [hy] at hx; cases hx
    | some y =>
      rw [hy] at hx; cases hx
      obtain ⟨v, hv, rv⟩ := rs.get hy
      refine ⟨⟨vs, v, sq, hv⟩, ?_⟩
      rintro w H3 ⟨q, u, rfl, hq, rfl, at_⟩
      have eu := at_ vs sq
      rw [hv] at eu; cases eu
      exact ⟨Ext.new hq, s.new hq, .tup (s.out hq) upd_same (.cons (.int _) (.cons (rv.ext (Ext.new hq)) .nil))⟩
  · obtain ⟨vs, sq, rs⟩ := get ι2 H2 e
    exact ⟨vs, sq, by rw [enuD_len, rs.length]⟩
theorem rd_en {K : PySem.W.Frag} {mg : Str → Option Value} {k : Int} {σ : L2.St} {H : Hp} {R : It → Hp → Prop} (h : rdI K mg W (iEn k d) σ H R) : iEnT K k (rdA K mg W (aCons d aNil)) σ H R := by
  obtain ⟨ι, env, S, s, er, p⟩ := h
  refine ⟨ι, env, S, s, er, ?_⟩
  unfold iEn at p
  unfold aCons aNil
  cases hd : d env S with
  | ok x S1 =>
    rw [hd] at p
    cases x with
    | tup xs =>
      intro ι1 H1 vs e1 s1 r1
      obtain ⟨v, rfl, rv⟩ := rps1 r1
      obtain ⟨b, vs, rfl, sq, rs⟩ := rv.tup_inv
      exact ⟨b, vs, rfl, sq, p ι1 H1 _ e1 s1 (en_ok rv)⟩
    | _ => exact p.elim
  | ex c fs S1 => rw [hd] at p; exact p
  | bad => rw [hd] at p; exact p.elim
theorem i_en (hg : Gl X "enumerate") (hm : X.mg "enumerate" = none) (ha : EE X W e d) (hs : starEach [e] X.env = [(false, eval e X.env)] := by rfl) : II X W (.Tuple es kk tpos) (.Call (.Name "enumerate" p) [e] [] pos) (iEn 0 d) :=
  PI.imp (pi_enT hg hm (a_cons ha a_nil hs) hs) fun σ H R h => rd_en h
theorem i_enK {k : Int} {j : Nat} {cp : Pos} (k0 : -(2 ^ 63) ≤ k) (k1 : k < 2 ^ 63) (hg : Gl X "enumerate") (hm : X.mg "enumerate" = none) (ha : EE X W e d) (hs : starEach [e] X.env = [(false, eval e X.env)] := by rfl)
    (he : backTo pos (starEach [e] X.env) = (false, eval e X.env) :: backTo pos (starEach [] X.env) := by rfl) (hp : (backTo pos (starEach [e] X.env)).any (·.1) = false := by rfl)
    (h1 : (backToKw pos (keywordEach [⟨some "start", .Constant (.int k) j cp, kp⟩] X.env)).all (·.1.isSome) = true := by rfl) (h2 : (backToKw pos (keywordEach [⟨some "start", .Constant (.int k) j cp, kp⟩] X.env)).any (·.1.isNone) = false := by rfl) (h3 : (backToKw pos (keywordEach [⟨some "start", .Constant (.int k) j cp, kp⟩] X.env)).filterMap (·.1) = [Str.ofString "start"] := by rfl) :
    II X W (.Tuple es kk tpos) (.Call (.Name "enumerate" p) [e] [⟨some "start", .Constant (.int k) j cp, kp⟩] pos) (iEn k d) :=
  PI.imp (pi_enK k0 k1 hg hm (a_cons ha a_nil hs) (pk_cons pe_int pk_nil) he hp h1 h2 h3) fun σ H R h => rd_en h
end
end
end Z
end

section
set_option Elab.async false
set_option linter.all false
set_option maxRecDepth 100000
set_option maxHeartbeats 1000000
namespace Z
noncomputable section
open PySem PySem.Spec PyProof.Rows L2
/-! ### insert, pop(i) -/
def fIns (x : D) (ys : List D) (S : Sto) : R D := match x, ys with
  | .ref n, [.int i, y] => match S[n]? with
    | some (.lst xs) => if FitS xs.length ∧ 0 ≤ i ∧ i < 1000000 then .ok .non (S.set n (.lst (xs.take i.toNat ++ y :: xs.drop i.toNat))) else .bad
    | none => .bad
  | _, _ => .bad
def fPopAt (x : D) (ys : List D) (S : Sto) : R D := match x, ys with
  | .ref n, [.int i] => match S[n]? with
    | some (.lst xs) => if 0 ≤ i ∧ i < 1000000 then match xs[i.toNat]? with
      | some y => .ok y (S.set n (.lst (xs.eraseIdx i.toNat)))
      | none => .bad
      else .bad
    | none => .bad
  | _, _ => .bad
section
variable {K : PySem.W.Frag}
theorem Rps.erase {H : Hp} {ι : Em} {vs : List V} {ds : List D} (k : Nat) (r : Rps K H ι vs ds) : Rps K H ι (vs.eraseIdx k) (ds.eraseIdx k) := by
  rw [List.eraseIdx_eq_take_drop_succ, List.eraseIdx_eq_take_drop_succ]
  exact (r.take k).append (r.drop (k + 1))
theorem sIns : MzS K (fun x vs H Q => ∃ (l : Addr) (xs : List V) (i : Int) (y : V), x = .ref l ∧ vs = [.int i, y] ∧ H l = some (.lst xs) ∧ xs.length < sizeLine ∧ 0 ≤ i ∧ i < 2 ^ 63 ∧ Q .non (upd H l (.lst (xs.take i.toNat ++ [y] ++ xs.drop i.toNat)))) fIns := by
  intro mg W σ ι H S x dx ys dys Q s r rs p
  unfold fIns at p
  split at p
  · rename_i n i y
    split at p
    · rename_i xs e
      split at p
      · rename_i hl
        obtain ⟨h1, h2, h3⟩ := hl
        obtain ⟨a, vs, rfl, ea, h4, h5⟩ := refL s r e
        obtain ⟨u, v, rfl, ru, rv⟩ := rps2 rs
        cases ru
        refine ⟨a, vs, i, v, rfl, rfl, h4, by rw [h5.length]; exact h1, h2, Int.lt_trans h3 (by decide), p ι _ _ (Ext.put ea) (s.put ea ?_) .non⟩
        have := ((h5.take i.toNat).append (.cons rv .nil)).append (h5.drop i.toNat)
        have e5 : xs.take i.toNat ++ y :: xs.drop i.toNat = xs.take i.toNat ++ [y] ++ xs.drop i.toNat := by simp
        rw [e5]
        exact this
      · exact p.elim
    · exact p.elim
  · exact p.elim
theorem sPopAt : MzS K rPopAt fPopAt := by
  intro mg W σ ι H S x dx ys dys Q s r rs p
  unfold fPopAt at p
  split at p
  · rename_i n i
    split at p
    · rename_i xs e
      split at p
      · rename_i hi
        split at p
        · rename_i y e2
          obtain ⟨a, vs, rfl, ea, h1, h2⟩ := refL s r e
          obtain ⟨w, rfl, rw1⟩ := rps1 rs
          cases rw1
          obtain ⟨u, e3, ru⟩ := h2.get e2
          have hlt := (List.getElem?_eq_some_iff.mp e3).1
          refine ⟨a, vs, i, i.toNat, u, rfl, rfl, h1, Int.le_trans (by decide) hi.1, Int.lt_trans hi.2 (by decide), ?_, e3, p ι _ _ (Ext.put ea) (s.put ea (h2.erase _)) (ru.ext (Ext.put ea))⟩
          unfold seqIndex?
          have n1 : ¬ i < 0 := by omega
          rw [if_neg n1]
          have n2 : (decide (0 ≤ i) && decide (i < (vs.length : Int))) = true := by
            rw [Bool.and_eq_true, decide_eq_true_eq, decide_eq_true_eq]
            omega
          simp only [n2, if_true]
        · exact p.elim
      · exact p.elim
    · exact p.elim
  · exact p.elim
end
/-! ### truth of values -/
def fTr (x : D) (S : Sto) : R Bool := match x with
  | .bl c => .ok c S
  | .int i => .ok (i != 0) S
  | x => match seqOf S x with
    | some xs => .ok (!xs.isEmpty) S
    | none => .bad
def tTr (a : Den) : DenT := fun env S => (a env S).bind fTr
section
variable {X : Cx} {W : WX} {a e : Expr} {es : List Expr} {d : Den} {da : DenA} {pos p p2 pos2 sp : Pos}
theorem t_Tr (h : EE X W a d) (he : ∀ whole, isTrue a X.env whole = (do let v ← whole; standAt a.pos; holding [v] (truthy v)) := by intro _; rfl) : TT' X W a (tTr d) := PT.imp (pt_truth h he) fun σ H Q h => by
  obtain ⟨ι, env, S, s, er, p⟩ := h
  refine ⟨ι, env, S, s, er, (Post.bind (Rel' := Rp X.K) p).mono ?_⟩
  rintro x H1 ⟨ι1, dx, S1, e1, s1, r1, p1⟩
  have sq : ∀ xs, seqOf S1 dx = some xs → Post X.K X.mg (fun _ _ b c => b = c) W σ ι1 H1 (R.ok (!xs.isEmpty) S1) Q → ∃ k, TruV X.K x H1 k ∧ Q k H1 := fun xs e q => by
    obtain ⟨a, vs, rfl, h1, h2⟩ := seq_inv s1 r1 e
    have hl : vs.isEmpty = xs.isEmpty := by
      have := h2.length
      cases vs <;> cases xs <;> simp_all
    refine ⟨!xs.isEmpty, ?_, q.ret s1 rfl⟩
    rcases h1 with h1 | h1
    · exact .inl ⟨vs, h1, by rw [hl]⟩
    · exact .inr (.inl ⟨vs, h1, by rw [hl]⟩)
  cases dx with
  | bl c => cases r1; exact ⟨c, rfl, p1.ret s1 rfl⟩
  | int i => cases r1; exact ⟨_, rfl, p1.ret s1 rfl⟩
  | tup xs => exact sq _ rfl p1
  | lst xs => exact sq _ rfl p1
  | frz xs => exact sq _ rfl p1
  | ref n =>
    unfold fTr at p1
    simp only at p1
    split at p1
    · rename_i xs e; exact sq _ e p1
    · exact p1.elim
  | _ => exact p1.elim
/-! ### a starred item -/
def aStar (d : Den) (da : DenA) : DenA := fun env S => (d env S).bind fun x S1 => match seqOf S1 x with
  | some xs => (da env S1).bind fun ys S2 => .ok (xs ++ ys) S2
  | none => .bad
theorem a_star (h : EE X W e d) (hr : AA X W es da) (hs : starEach (.Starred e p :: es) X.env = (true, eval e X.env) :: starEach es X.env := by rfl) : AA X W (.Starred e p :: es) (aStar d da) := PA.imp (StX.pa_star h hr hs) fun σ H Q h => by
  obtain ⟨ι, env, S, s, er, p⟩ := h
  refine ⟨ι, env, S, s, er, (Post.bind (Rel' := Rp X.K) p).mono ?_⟩
  rintro x H1 ⟨ι1, dx, S1, e1, s1, r1, p1⟩
  split at p1
  · rename_i xs e
    obtain ⟨a, vs, rfl, h1, h2⟩ := seq_inv s1 r1 e
    refine ⟨a, vs, rfl, h1.symm, ι1, env, S1, s1, er.ext e1, (Post.bind (Rel' := Rps X.K) p1).mono ?_⟩
    rintro ys H2 ⟨ι2, dys, S2, e2, s2, r2, p2⟩
    exact p2.ret s2 ((h2.ext e2).append r2)
  · exact p1.elim
end
end
end Z
end

section
set_option Elab.async false
set_option linter.all false
set_option maxRecDepth 100000
set_option maxHeartbeats 1000000
namespace Z
noncomputable section
open PySem PySem.Spec PyProof.Rows L2
/-! ### sorted(set(tuple of numbers)) -/
def insS (k : Int) : List Int → List Int
  | [] => [k]
  | x :: xs => if k < x then k :: x :: xs else if k = x then x :: xs else x :: insS k xs
def sset (ns : List Int) : List Int := ns.foldr insS []
theorem insS_mem {k j : Int} : ∀ {xs : List Int}, j ∈ insS k xs ↔ j = k ∨ j ∈ xs
  | [] => by simp [insS]
  | x :: xs => by
    unfold insS
    split
    · simp
    · split
      · rename_i h; subst h; simp
      · simp only [List.mem_cons, insS_mem (xs := xs)]
        constructor
        · rintro (h | h | h)
          · exact .inr (.inl h)
          · exact .inl h
          · exact .inr (.inr h)
        · rintro (h | h | h)
          · exact .inr (.inl h)
          · exact .inl h
          · exact .inr (.inr h)
theorem insS_pw {k : Int} : ∀ {xs : List Int}, xs.Pairwise (· < ·) → (insS k xs).Pairwise (· < ·)
  | [], _ => by simp [insS]
  | x :: xs, h => by
    obtain ⟨h1, h2⟩ := List.pairwise_cons.mp h
    unfold insS
    split
    · rename_i hk
      refine List.pairwise_cons.mpr ⟨fun j hj => ?_, h⟩
      rcases List.mem_cons.mp hj with rfl | hj
      · exact hk
      · exact Int.lt_trans hk (h1 j hj)
    · split
      · exact h
      · rename_i a b
        refine List.pairwise_cons.mpr ⟨fun j hj => ?_, insS_pw h2⟩
        rcases insS_mem.mp hj with rfl | hj
        · omega
        · exact h1 j hj
theorem sset_mem {j : Int} : ∀ {ns : List Int}, j ∈ sset ns ↔ j ∈ ns
  | [] => by simp [sset]
  | x :: xs => by
    have ih := sset_mem (j := j) (ns := xs)
    unfold sset at ih ⊢
    rw [List.foldr_cons, insS_mem, ih, List.mem_cons]
theorem sset_pw : ∀ {ns : List Int}, (sset ns).Pairwise (· < ·)
  | [] => by simp [sset]
  | x :: xs => by
    have ih := sset_pw (ns := xs)
    unfold sset at ih ⊢
    rw [List.foldr_cons]
    exact insS_pw ih
/-- strictly ascending rows with the same numbers are one -/
theorem pw_uniq : ∀ {xs ys : List Int}, xs.Pairwise (· < ·) → ys.Pairwise (· < ·) → (∀ j, j ∈ xs ↔ j ∈ ys) → xs = ys
  | [], [], _, _, _ => rfl
  | [], y :: ys, _, _, h => by have := (h y).mpr (by simp); cases this
  | x :: xs, [], _, _, h => by have := (h x).mp (by simp); cases this
  | x :: xs, y :: ys, hx, hy, h => by
    obtain ⟨a1, a2⟩ := List.pairwise_cons.mp hx
    obtain ⟨b1, b2⟩ := List.pairwise_cons.mp hy
    have e : x = y := by
      rcases List.mem_cons.mp ((h x).mp (by simp)) with e | e
      · exact e
      · rcases List.mem_cons.mp ((h y).mpr (by simp)) with e' | e'
        · exact e'.symm
        · have := a1 y e'
          have := b1 x e
          omega
    subst e
    congr 1
    refine pw_uniq a2 b2 fun j => ⟨fun hj => ?_, fun hj => ?_⟩
    · rcases List.mem_cons.mp ((h j).mp (List.mem_cons_of_mem _ hj)) with e | e
      · subst e; have := a1 j hj; omega
      · exact e
    · rcases List.mem_cons.mp ((h j).mpr (List.mem_cons_of_mem _ hj)) with e | e
      · subst e; have := b1 j hj; omega
      · exact e
def intsD : List D → Option (List Int)
  | [] => some []
  | .int i :: xs => (intsD xs).map fun is => i :: is
  | _ :: _ => none
theorem intsD_map : ∀ ns : List Int, intsD (ns.map D.int) = some ns
  | [] => rfl
  | n :: ns => by rw [List.map_cons, intsD, intsD_map ns]; rfl
theorem ints_rps {K : PySem.W.Frag} {H : Hp} {ι : Em} : ∀ {xs : List D} {vs : List V} {ns : List Int}, Rps K H ι vs xs → intsD xs = some ns → vs = ns.map V.int
  | [], _, _, r, e => by cases r; cases e; rfl
  | .int i :: xs, _, ns, r, e => by
    cases r with
    | cons r1 r2 =>
      cases r1
      rw [intsD] at e
      cases q : intsD xs with
      | none => rw [q] at e; cases e
      | some is => rw [q] at e; cases e; rw [ints_rps r2 q]; rfl
theorem int_rps {K : PySem.W.Frag} {H : Hp} {ι : Em} : ∀ ns : List Int, Rps K H ι (ns.map V.int) (ns.map D.int)
  | [] => .nil
  | n :: ns => .cons (.int n) (int_rps ns)
section
variable {X : Cx} {W : WX} {e : Expr} {te : TE} {d : Den} {p p2 pos pos2 : Pos}
def rSetTu (K : PySem.W.Frag) (w : World) (vs : List V) (H : Hp) (Q : VK) : Prop := ∃ (l : Addr) (ns : List Int), vs = [V.ref l] ∧ SqT K H l (ns.map V.int) ∧ ns.length < 60 ∧ ∀ (q : Addr) (c : Nat), H q = none → c ≤ ns.length → Q (.ref q) (upd H q (SetO w q (fun j => decide (j ∈ ns)) c))
theorem cr_setTu (hc : X.calm = true) : CallR X (.type "set") (rSetTu X.K X.w) := by
  rintro pins s σ H xs us Q I r ⟨l, ns, rfl, sq, hl, q⟩
  obtain ⟨u, rfl, ru⟩ := r.one
  cases ru
  obtain ⟨its, rv, isT, _⟩ := I.tuple sq
  refine call_set_tupI ns (I.ok.hd hc) isT (ints_of_vals rv) (by unfold scanBound; omega) fun h' tk c R hcn k => ?_
  exact ⟨.ref s.heap.objs.size, _, I.laid (t' := tk) k (Nat.le_refl _) (setO_new R), rfl, q _ c (I.hok.fresh (Nat.le_refl _)) hcn⟩
def dSoSet (d : Den) : Den := fun env S => (d env S).bind fun x S1 => match x with
  | .tup xs => match intsD xs with
    | some ns => if ns.length < 60 then .ok (.lst ((sset ns).map D.int)) S1 else .bad
    | none => .bad
  | _ => .bad
theorem e_soSet (hc : X.calm = true) (g1 : Gl X "sorted") (m1 : X.mg "sorted" = none) (g2 : Gl X "set") (m2 : X.mg "set" = none) (h : EE X W e d)
    (s1 : starEach [e] X.env = [(false, eval e X.env)] := by rfl) (s2 : starEach [.Call (.Name "set" p2) [e] [] pos2] X.env = [(false, eval (.Call (.Name "set" p2) [e] [] pos2) X.env)] := by rfl) :
    EE X W (.Call (.Name "sorted" p) [.Call (.Name "set" p2) [e] [] pos2] [] pos) (dSoSet d) := by
  have c1 := pe_callTy (x := "set") (p := p2) (pos := pos2) (cr_setTu hc) g2 m2 boot_set (pa_cons h pa_nil s1) (by decide) (by decide) s1 rfl
  have c2 := pe_callB (x := "sorted") (p := p) (pos := pos) (cr_sortedSet hc) g1 m1 boot_sorted (pa_cons c1 pa_nil s2) (by decide) (by decide) s2 rfl
  refine PE.imp c2 fun σ H Q h => ?_
  obtain ⟨ι, env, S, s, er, p⟩ := h
  refine ⟨ι, env, S, s, er, ?_⟩
  refine (Post.bind (Rel' := Rp X.K) p).mono ?_
  rintro x H1 ⟨ι1, dx, S1, e1, s1, r1, p1⟩
  split at p1
  · rename_i xs
    split at p1
    · rename_i ns en
      split at p1
      · rename_i hl
        obtain ⟨b, vs, rfl, sq, rs⟩ := r1.tup_inv
        have ev := ints_rps rs en
        subst ev
        refine ⟨b, ns, rfl, sq, hl, fun q c hq hcn => ⟨q, _, c, rfl, upd_same, by omega, fun ms t pw mem hlen ht => ?_⟩⟩
        have em : ms = sset ns := pw_uniq pw sset_pw fun j => by rw [mem, sset_mem, decide_eq_true_eq]
        subst em
        have E1 : Ext ι1 H1 (ι1.ban q) (upd H1 q (SetO X.w q (fun j => decide (j ∈ ns)) c)) := Ext.banned hq
        have S1' := s1.banned (o := SetO X.w q (fun j => decide (j ∈ ns)) c) hq
        refine p1 _ _ _ (E1.tr S1' (Ext.new ht)) (S1'.new ht) (.lst (S1'.out ht) upd_same (int_rps _))
      · exact p1.elim
    · exact p1.elim
  · exact p1.elim
end
end
end Z
end

section
set_option Elab.async false
set_option linter.all false
set_option maxRecDepth 100000
set_option maxHeartbeats 1000000
namespace Z
noncomputable section
open PySem PySem.Spec PyProof.Rows L2
def sRetN : SDen := fun _ S => F.rt .non S
section
variable {X : Cx} {W : WX} {pos : Pos}
theorem s_retN : SS X W (.Return none pos) sRetN := PS.imp ps_retN fun Dn σ H h => by
  obtain ⟨ι, env, S, s, er, p⟩ := h
  exact p ι H .non Ext.refl s .non
end
end
end Z
end

section
set_option Elab.async false
set_option linter.all false
set_option maxRecDepth 100000
set_option maxHeartbeats 1000000
namespace Z
open PySem PySem.Spec PyProof.Rows L2
theorem look_map {f : Str × NameKind → Str × NameKind} (hf : ∀ p, (f p).1 = p.1) {x : Str} {k : NameKind} : ∀ {ns : List (Str × NameKind)}, ns.lookup x = some k → (ns.map f).lookup x = some (f (x, k)).2
  | [], h => by cases h
  | (n, j) :: r, h => by
    have e : f (n, j) = (n, (f (n, j)).2) := Prod.ext (hf (n, j)) rfl
    rw [List.map_cons, e, List.lookup_cons]
    rw [List.lookup_cons] at h
    by_cases hx : (x == n) = true
    · rw [hx] at h ⊢
      simp only [Option.some.injEq] at h ⊢
      have : x = n := eq_of_beq hx
      subst this; subst h; rfl
    · rw [Bool.not_eq_true] at hx
      rw [hx] at h ⊢
      exact look_map hf h
theorem blk_rel {N : List Str} {sc scope : Scope} {own : List (Str × Nat)} {env : PySem.Env} (h : BlkOk N sc scope own) : BlkOk N (relabel sc env) scope own := by
  refine ⟨h.kind, h.uniq, h.ix, fun y hy e => ?_, h.own⟩
  have g : ∀ k, sc.names.lookup y.1 = some k → (k = .cell ∨ k = .free) → (relabel sc env).names.lookup y.1 = some .cell ∨ (relabel sc env).names.lookup y.1 = some .free := fun k hk hc => by
    have m := look_map (f := fun (p : Str × NameKind) => if (p.2 == NameKind.free && env.scope.kind == .function && env.kindOf p.1 == some .cell) then (p.1, NameKind.cell) else (p.1, p.2)) (fun p => by split <;> rfl) hk
    have r : (relabel sc env).names.lookup y.1 = _ := m
    rw [r]
    split
    · exact .inl rfl
    · rcases hc with rfl | rfl
      · exact .inl rfl
      · exact .inr rfl
  rcases h.free y hy e with q | q
  · exact g _ q (.inl rfl)
  · exact g _ q (.inr rfl)
end Z
end

section
set_option Elab.async false
set_option linter.all false
set_option maxRecDepth 100000
set_option maxHeartbeats 1000000
/-! defs that are called while an error is handled -/
namespace Z
noncomputable section
open PySem PySem.Spec PyProof.Rows L2
theorem takes0N {X : Cx} : L2N.Takes X (fun _ _ _ _ => False) := fun _ _ x => by
  obtain ⟨_, _, _, _, _, _, _, _, _, _, _, _, _, _, _, _, z⟩ := x
  exact z.elim
abbrev RoomH := L2H.RoomH
theorem roomS {k : Nat} {A : Around} {h : Option Value} (r : RoomZ k A) : L2H.RoomH k (A.mark h) := ⟨r.r.dp, r.r.un⟩
theorem RoomH.units {k : Nat} {A : Around} (r : L2H.RoomH k A) : A.units + 64 < cLine := by have := r.un; omega
abbrev FnZH (P : Program) (w : World) (K : PySem.W.Frag) (mg : Str → Option Value) (base : Heap) (k : Nat) (f : Addr) (fd : FuncData) (ps : List Str) (F : FD) : Prop := L2H.FnH P w K mg base (L2N.CX P w) k f fd ps (spOf K mg ps.length F)
section
variable {P : Program} {w : World} {K : PySem.W.Frag} {mg : Str → Option Value} {base : Heap}
theorem fn_okH {x qual : Str} {st : Stmt} {f : Addr} {fd : FuncData} {N ps : List Str} {k : Nat} {body : SDen} (F : Fun K x qual st f fd) (S : FnScope N ps (defScope st)) (hN : ps.length ≤ N.length)
    (hb : ∀ (cdv : Value) (A : Around) (outer : List PySem.Env) (s : Shared) (H : Hp) (E : XK) (p : Addr × Obj), L2H.RoomH k (A.deeper (envOfC qual (defScope st) s.heap.objs.size f cdv)) → L2H.HotC (L2H.cxH (L2N.CX P w) P w K mg base N qual (defScope st) f cdv A outer s H E p) →
      L2N.Takes (L2H.cxH (L2N.CX P w) P w K mg base N qual (defScope st) f cdv A outer s H E p) (wE E) → SSs (L2H.cxH (L2N.CX P w) P w K mg base N qual (defScope st) f cdv A outer s H E p) (wE E) (defBody st) body) :
    FnZH P w K mg base (k + 1) f fd ps (fnF N.length body) := by
  obtain ⟨oc, od, kV, doc, pm, an, cdv, ct, osl, rfl, lk, hcd⟩ := F.ex
  refine L2H.fn_ofH lk hcd S (fun vs H Q E h => h.1) fun A outer s H vs Q E p hot hr h => ?_
  refine ⟨_, hb cdv A outer s H E p hr ⟨p, hot, List.mem_singleton.mpr rfl⟩ (L2N.takes_of rfl rfl rfl rfl), ?_⟩
  obtain ⟨hl, ι, ds, S0, sr, r, q⟩ := h
  refine ⟨ι, _, S0, sr, er_start r (by rw [hl]; exact hN), ?_⟩
  unfold fnF at q
  show PostS K mg (wE E) ι H (body (ds.map some ++ List.replicate (N.length - ds.length) none) S0) _
  cases z : body (ds.map some ++ List.replicate (N.length - ds.length) none) S0 with
  | nx e S' => rw [z] at q; exact fun ι' H' σ' e1 s1 _ => q ι' H' .non e1 s1 .non
  | rt d S' => rw [z] at q; exact q
  | ex c fs e S' => rw [z] at q; exact fun ι' H' σ' dd C gs e1 s1 _ => q ι' H' dd C gs e1 s1
  | bk e S' => rw [z] at q; exact q.elim
  | ct e S' => rw [z] at q; exact q.elim
  | bad => rw [z] at q; exact q.elim
theorem fn_badH {f : Addr} {fd : FuncData} {ps : List Str} {k : Nat} : FnZH P w K mg base k f fd ps (fun _ _ => .bad) :=
  ⟨fun vs H Q E h => h.1, fun A outer s H args us vs Q E p hr hot hp e0 hb rv h => by
    obtain ⟨_, ι, ds, S, _, _, q⟩ := h
    exact q.elim⟩
end
section
variable {X : Cx} {W : WX} {k : Nat} {f : Addr} {fd : FuncData} {ps : List Str} {F : FD} {us : List Value} {x : Str} {p pos : Pos} {e : Expr} {es : List Expr} {da : DenA}
theorem e_callH {n : Nat} (Fk : FnZH X.prog X.w X.K X.mg X.base k f fd ps F) (hr : L2H.RoomH k X.A) (hot : L2H.HotC X) (hm : X.mg x = some (.ref f)) (hk : PySem.W.keepIn X.K (.ref f) = true) (hb : Binds X.K fd ps []) (tk : L2N.Takes X W) (ha : AA X W (e :: es) da) (hn : ps.length = n := by rfl) (hg : Gl X x := by rfl)
    (hdb : (x == ("__debug__" : Str)) = false := by decide) (he : starEach (e :: es) X.env = (false, eval e X.env) :: starEach es X.env := by rfl) (hpl : (backTo pos (starEach es X.env)).any (·.1) = false := by rfl) :
    EE X W (.Call (.Name x p) (e :: es) [] pos) (dCall (arity n F) [] da) := by
  subst hn
  refine PE.imp (L2H.pe_callH (E := WE W) Fk hr hot hg hm hk hb (fun σ => L2N.passAt tk σ) ha hdb he hpl) fun σ H Q h => ?_
  obtain ⟨ι, env, S, s, er, q⟩ := h
  refine ⟨ι, env, S, s, er, (Post.bind (Rel' := Rps X.K) q).mono ?_⟩
  rintro xs H1 ⟨ι1, ds, S1, e1, s1, r1, p1⟩
  rw [List.append_nil] at p1
  unfold arity at p1
  split at p1
  · rename_i hl
    exact ⟨by rw [r1.length]; exact hl, ι1, ds, S1, s1, r1, Post.wish (E := WE W σ) p1 fun _ _ _ h => h⟩
  · exact p1.elim
end
section
variable {X : Cx} {W : WX} {tg : Expr} {pos p : Pos}
structure PIHZ (X : Cx) (W : WX) (tg e : Expr) (d : DenI) : Prop where
  run : L2H.PIH X tg e (rdI X.K X.mg W d)
theorem i_rng1H {a : Expr} {da : DenA} (hg : Gl X "range") (hm : X.mg "range" = none) (ha : AA X W [a] da) (hs : starEach [a] X.env = [(false, eval a X.env)] := by rfl) : PIHZ X W tg (.Call (.Name "range" p) [a] [] pos) (iRng1 da) :=
  ⟨⟨fun pins s σ H R I h => (L2H.pi_range1H hg hm ha hs).run pins s σ H R I (rd_rng1 h)⟩⟩
theorem s_forH {iter : Expr} {body : List Stmt} {src : DenI} {t : Tg} {db : SDen} (hot : L2H.HotC X) (hi : PIHZ X W tg iter src) (hg : GG X tg t) (hb : SSs X W body db) (hp : PassesOwn (model X.prog X.w) X.A X.env X.xe) (hs : ∀ x, foldedSetIterable iter X.env x = pure x := by intro _; rfl) :
    SS X W (.For tg iter body [] pos) (sFor src t db) := PS.imp (L2H.ps_forH hp hot hi.run hg hb hs) fun _ _ _ h => rd_for h
end
end
end Z
end

section
set_option Elab.async false
set_option linter.all false
set_option maxRecDepth 100000
set_option maxHeartbeats 1000000
namespace Z
theorem lcGo_fm {t : Tg} {c : DenT} {elt : Den} {env : Env} {S : Sto} {g : Sto → Prop} (hg : g S) (p : D → Bool) (f : D → D) : ∀ (xs acc : List D), acc.length + xs.length ≤ 1000 →
    (∀ x ∈ xs, ∃ e, t.run x env = some e ∧ c e S = .ok (p x) S ∧ (p x = true → elt e S = .ok (f x) S)) → lcGo g t c elt env xs acc S = .ok (acc ++ (xs.filter p).map f) S
  | [], acc, _, _ => by rw [lcGo, if_pos hg]; simp
  | x :: xs, acc, hl, h => by
    obtain ⟨e, h1, h2, h3⟩ := h x List.mem_cons_self
    rw [lcGo, if_pos hg, h1]
    cases hp : p x with
    | true =>
      rw [hp] at h2
      simp only [h2, h3 hp, if_true]
      rw [if_pos (of_eq_true (sz_lt (by simp only [List.length_cons] at hl; omega))), lcGo_fm hg p f xs (acc ++ [f x]) (by simp only [List.length_append, List.length_cons, List.length_nil] at hl ⊢; omega) fun y hy => h y (List.mem_cons_of_mem _ hy)]
      simp [hp]
    | false =>
      rw [hp] at h2
      simp only [h2]
      rw [if_neg (by simp), lcGo_fm hg p f xs acc (by simp only [List.length_cons] at hl; omega) fun y hy => h y (List.mem_cons_of_mem _ hy)]
      simp [hp]
theorem dLc_fm {cl : Bool} {src : DenI} {vs : List Nat} {t : Tg} {c : DenT} {elt : Den} {env : Env} {S S1 : Sto} {xs : List D} {g : Sto → Prop} (p : D → Bool) (f : D → D) (hs : src env S = .ok (xs, g) S1) (hg : g S1) (hl : xs.length ≤ 1000)
    (h : ∀ x ∈ xs, ∃ e, t.run x (wipeE env vs) = some e ∧ c e S1 = .ok (p x) S1 ∧ (p x = true → elt e S1 = .ok (f x) S1)) : dLc cl src vs t c elt env S = lcEnd cl ((xs.filter p).map f) S1 := by
  unfold dLc
  rw [hs, R.bind_ok, lcGo_fm hg p f xs [] (by simpa using hl) h, R.bind_ok, List.nil_append]
theorem dLc_map {cl : Bool} {src : DenI} {vs : List Nat} {t : Tg} {elt : Den} {env : Env} {S S1 : Sto} {xs : List D} {g : Sto → Prop} (f : D → D) (hs : src env S = .ok (xs, g) S1) (hg : g S1) (hl : xs.length ≤ 1000)
    (h : ∀ x ∈ xs, ∃ e, t.run x (wipeE env vs) = some e ∧ elt e S1 = .ok (f x) S1) : dLc cl src vs t tYesD elt env S = lcEnd cl (xs.map f) S1 := by
  have k := dLc_fm (cl := cl) (vs := vs) (c := tYesD) (elt := elt) (t := t) (fun _ => true) f hs hg hl fun x hx => by
    obtain ⟨e, h1, h2⟩ := h x hx
    exact ⟨e, h1, rfl, fun _ => h2⟩
  rw [k, List.filter_eq_self.mpr fun _ _ => rfl]
/-- a comprehension whose items change the store -/
theorem lcGo_ex {t : Tg} {elt : Den} {env : Env} {g : Sto → Prop} (I : Sto → Prop) (P : D → D → Prop) (hg : ∀ S, I S → g S) : ∀ (xs acc : List D) (S : Sto), I S → acc.length + xs.length ≤ 1000 →
    (∀ x ∈ xs, ∀ S, I S → ∃ e y S', t.run x env = some e ∧ elt e S = .ok y S' ∧ I S' ∧ P x y) → ∃ ys S', lcGo g t tYesD elt env xs acc S = .ok (acc ++ ys) S' ∧ I S' ∧ ys.length = xs.length ∧ ∀ (i : Nat) (x y : D), xs[i]? = some x → ys[i]? = some y → P x y
  | [], acc, S, hI, _, _ => ⟨[], S, by rw [lcGo, if_pos (hg S hI), List.append_nil], hI, rfl, fun i x y h _ => by simp at h⟩
  | x :: xs, acc, S, hI, hl, h => by
    obtain ⟨e, y, S1, h1, h2, h3, h4⟩ := h x List.mem_cons_self S hI
    obtain ⟨ys, S2, k1, k2, k3, k4⟩ := lcGo_ex I P hg xs (acc ++ [y]) S1 h3 (by simp only [List.length_append, List.length_cons, List.length_nil] at hl ⊢; omega) fun z hz => h z (List.mem_cons_of_mem _ hz)
    refine ⟨y :: ys, S2, ?_, k2, by simp [k3], fun i a b ha hb => ?_⟩
    · rw [lcGo, if_pos (hg S hI), h1]
      have e1 : tYesD e S = .ok true S := rfl
      simp only [e1, h2, if_true]
      rw [if_pos (of_eq_true (sz_lt (by simp only [List.length_cons] at hl; omega))), k1]
      simp
    · cases i with
      | zero =>
        rw [List.getElem?_cons_zero] at ha hb
        cases ha; cases hb; exact h4
      | succ i =>
        rw [List.getElem?_cons_succ] at ha hb
        exact k4 i a b ha hb
end Z
end

section
set_option Elab.async false
set_option linter.all false
set_option maxRecDepth 100000
set_option maxHeartbeats 1000000
namespace Z
noncomputable section
open PySem PySem.Spec PyProof.Rows L2
/-! ### < and > of data that are alike; max of a list of such -/
def LtOk (p q : PyData) : Prop := PySem.W.alike p q = true ∧ p ≠ PyData.none ∧ SeqAt.shaped p = true ∧ SeqAt.shaped q = true
instance (p q : PyData) : Decidable (LtOk p q) := Classical.propDecidable _
def ordN (f : PyData → PyData → Bool) (x y : D) (S : Sto) : R D := match pyS S x, pyS S y with
  | some p, some q => if LtOk p q then .ok (.bl (f p q)) S else .bad
  | _, _ => .bad
def fLtD (x y : D) (S : Sto) : R D := match x with
  | .int _ => fLt x y S
  | _ => ordN (fun p q => PySem.W.dataLt p q) x y S
def fGtD (x y : D) (S : Sto) : R D := match x with
  | .int _ => fGt x y S
  | _ => ordN (fun p q => PySem.W.dataLt q p) x y S
def rOrdD (K : PySem.W.Frag) (f : PyData → PyData → Bool) : R2 := fun x y H Q => ∃ d e, Dp K H x d ∧ Dp K H y e ∧ LtOk d e ∧ Q (.bl (f d e)) H
section
variable {X : Cx} {K : PySem.W.Frag}
theorem op_ltD (hu : X.A.units + 64 < cLine) : OpR X (compareOp .Lt) (rOrdD X.K fun p q => PySem.W.dataLt p q) := by
  intro pins s σ H x y v u Q I rx ry ⟨d, e, hd, he, hl, q⟩
  obtain ⟨as, r1⟩ := Dp.reads I d x v hd rx
  obtain ⟨bs, r2⟩ := Dp.reads I e y u he ry
  exact PySem.W.lt_data r1 r2 hl.1 hl.2.1 (SeqAt.room_of_shaped hl.2.2.1 hu) ⟨.bl _, H, I, rfl, q⟩
theorem op_gtD (hu : X.A.units + 64 < cLine) : OpR X (compareOp .Gt) (rOrdD X.K fun p q => PySem.W.dataLt q p) := by
  intro pins s σ H x y v u Q I rx ry ⟨d, e, hd, he, hl, q⟩
  obtain ⟨as, r1⟩ := Dp.reads I d x v hd rx
  obtain ⟨bs, r2⟩ := Dp.reads I e y u he ry
  exact PySem.W.gt_data r1 r2 hl.1 hl.2.1 (SeqAt.room_of_shaped hl.2.2.1 hu) ⟨.bl _, H, I, rfl, q⟩
theorem ordN_ok {mg : Str → Option Value} {W : WX} {σ : L2.St} {ι : Em} {H : Hp} {S : Sto} {x y : V} {dx dy : D} {Q : VK} {f : PyData → PyData → Bool} (s : Sr K H ι S) (rx : Rp K H ι x dx) (ry : Rp K H ι y dy) (p : Post K mg (Rp K) W σ ι H (ordN f dx dy S) Q) :
    rOrdD K f x y H Q := by
  unfold ordN at p
  split at p
  · rename_i d e h1 h2
    split at p
    · rename_i hl
      exact ⟨d, e, dpS_of s rx h1, dpS_of s ry h2, hl, p.ret s (.bl _)⟩
    · exact p.elim
  · exact p.elim
def rLtZ (K : PySem.W.Frag) : R2 := fun x y H Q => (rI0 fun i j => .bl (decide (i < j))) x y H Q ∨ (rOrdD K fun p q => PySem.W.dataLt p q) x y H Q
def rGtZ (K : PySem.W.Frag) : R2 := fun x y H Q => (rI0 fun i j => .bl (decide (i > j))) x y H Q ∨ (rOrdD K fun p q => PySem.W.dataLt q p) x y H Q
theorem oLtD (hu : X.A.units + 64 < cLine) : OpR X (compareOp .Lt) (rLtZ X.K) := op_lt.or (op_ltD hu)
theorem oGtD (hu : X.A.units + 64 < cLine) : OpR X (compareOp .Gt) (rGtZ X.K) := op_gt.or (op_gtD hu)
theorem sLtD : OpS K (rLtZ K) fLtD := by
  intro mg W σ ι H S x y dx dy Q s rx ry p
  cases dx with
  | int i => exact .inl (sLt mg W σ ι H S x y _ dy Q s rx ry p)
  | _ => exact .inr (ordN_ok s rx ry p)
theorem sGtD : OpS K (rGtZ K) fGtD := by
  intro mg W σ ι H S x y dx dy Q s rx ry p
  cases dx with
  | int i => exact .inl (sGt mg W σ ι H S x y _ dy Q s rx ry p)
  | _ => exact .inr (ordN_ok s rx ry p)
end
/-- pairs of ints -/
theorem lt_pair (a b c d : Int) : PySem.W.dataLt (.tuple [.int a, .int b]) (.tuple [.int c, .int d]) = decide (a < c ∨ (a = c ∧ b < d)) := by
  rw [PySem.W.dataLt_tuple]
  simp only [PySem.W.keyToksAll, PySem.W.keyToks, List.cons_append, List.nil_append]
  have sf : ∀ (x : Int ⊕ List Nat) (r t : List (Int ⊕ List Nat)), lexLt itemOrd (x :: r) (x :: t) = lexLt itemOrd r t := fun x r t => lex_self (O := itemOrd) x r t
  rw [sf]
  by_cases h : a = c
  · subst h
    rw [sf, sf]
    by_cases h2 : b = d
    · subst h2
      rw [sf, sf]
      simp [PyProof.Rows.lexLt]
    · rw [lex_diff (O := itemOrd) (fun z => h2 (Sum.inl.inj z))]
      show decide (b < d) = _
      simp
  · rw [lex_diff (O := itemOrd) (fun z => h (Sum.inl.inj z))]
    show decide (a < c) = _
    simp [h]
end
end Z
end

section
set_option Elab.async false
set_option linter.all false
set_option maxRecDepth 100000
set_option maxHeartbeats 1000000
namespace Z
noncomputable section
open PySem PySem.Spec PyProof.Rows L2
/-! ### min and max by the answers of an own def -/
def in1 (X : Cx) : Cx := { X with A := X.A.in1 }
section
variable {X : Cx} {pins : List (Addr × Obj)} {σ : L2.St} {H : Hp} {s : Shared}
theorem ok_in1 (o : X.Ok) : (in1 X).Ok := { mod := o.mod, kind := o.kind, glob := o.glob, blt := o.blt, above := o.above, inj := o.inj, has := o.has, cab := o.cab, hd := o.hd, frames := o.frames, stk := o.stk, exf := o.exf, bs := o.bs, bsz := o.bsz, noex := o.noex, exfs := o.exfs, funs := o.funs, frf := o.frf }
theorem inv_in1 (I : Inv X pins σ H s) : Inv (in1 X) pins σ H s := ⟨ok_in1 I.ok, I.os, I.bare, I.base, I.loc, I.cell, I.free, I.freeC, I.pin, I.hok, I.len⟩
theorem inv_out (o : X.Ok) (I : Inv (in1 X) pins σ H s) : Inv X pins σ H s := ⟨o, I.os, I.bare, I.base, I.loc, I.cell, I.free, I.freeC, I.pin, I.hok, I.len⟩
theorem fp_more {b c : Addr} {h : Heap} (f : FpOk X pins H b) (n : c ≠ b) : FpOk X (pins ++ pinsAt [c] h) H b := by
  obtain ⟨f0, f1, f2, f3, f4, f5⟩ := f
  refine ⟨f0, f1, f2, f3, f4, fun p hp z => ?_⟩
  rcases List.mem_append.mp hp with z1 | z1
  · exact f5 p (List.mem_append_left _ z1) z
  · rcases List.mem_append.mp z1 with z2 | z2
    · exact f5 p (List.mem_append_right _ z2) z
    · have := (of_pinsAt z2).1
      simp only [List.mem_cons, List.not_mem_nil, or_false] at this
      exact n (this.symm.trans z)
end
/-- the list that holds the best item and its key -/
def boxO (l : List Value) (c : Nat) : Obj := { cls := .type "list", dict := none, data := .seq l.toArray c, slots := #[] }
/-- what the walk and the def's answers give, turn by turn -/
structure KeyW (X : Cx) (J : It) (n : Nat) (sp : Sp) (bt : PyData → PyData → Bool) (W : Nat → V → V → Hp → Prop) : Prop where
  go : ∀ i x k H, i < n → W i x k H → J.go i H
  stop : ∀ x k H, W n x k H → J.stop n H
  step : ∀ i x k H y H', i < n → W i x k H → J.yld i H y H' → sp [y] H' (fun k' H2 => ∃ d e, Dp X.K H2 k' d ∧ Dp X.K H2 k e ∧ LtOk d e ∧ W (i + 1) (if bt d e then y else x) (if bt d e then k' else k) H2) (fun _ _ _ => False)
/-- the def runs within the built-in -/
def Runs (X : Cx) (q : Addr) (sp : Sp) : Prop := ∀ (pins : List (Addr × Obj)) (σ : L2.St) (H : Hp) (s : Shared) (y : V) (u : Value) (Q : VK) (E : Value → Shared → Prop), Inv (in1 X) pins σ H s → RelV y u → sp [y] H Q (fun _ _ _ => False) →
  wpAny (model X.prog X.w) X.A.in1 (call (.ref q) [u]) (EP (in1 X) pins σ Q) E s
theorem runs_of {X : Cx} {q : Addr} {fd : FuncData} {x : Str} {k : Nat} {F : FD} (Fk : FnZ X.prog X.w X.K X.mg X.base k q fd [x] F) (hr : RoomZ (k + 1) X.A) (hb : Binds X.K fd [x] []) : Runs X q (spOf X.K X.mg 1 F) := by
  intro pins σ H s y u Q E I r h
  have Iw := I.wish E
  have z := run_G1 (X := (in1 X).wish E) (E := fun _ _ _ => False) (vs := [y]) (us := [u]) (Q := Q) Fk hr.in1 hb passN Iw (.cons r .nil) h
  exact wpAny_mono z (fun v s' ⟨w, H', I', r', q'⟩ => ⟨w, H', I'.unwish, r', q'⟩) fun _ _ e => e
theorem let1 {P : Program} {w : World} {A : Around} {α : Type} {m : Sem α} {x : Str} {p : Pos} {it u : Value} {G : Shared → Prop} {Q : α → Shared → Prop} {E : Value → Shared → Prop} {s : Shared}
    (h : wpAny (model P w) A (letOwnedTupleGo (.Name x p) it u) (fun _ s2 => G s2) (fun _ _ => False) s) (k : ∀ s2, G s2 → wpAny (model P w) A m Q E s2) : wpAny (model P w) A m Q E s := by
  have e : m = (letOwnedTupleGo (.Name x p) it u >>= fun _ => m) := by
    have z : letOwnedTupleGo (.Name x p) it u = pure () := rfl
    rw [z, pure_bind]
  rw [e]
  exact wpAny_bind (wpAny_mono h (fun _ s2 g => k s2 g) fun _ _ z => z.elim)
section
variable {X : Cx} {J : It} {n : Nat} {sp : Sp} {W : Nat → V → V → Hp → Prop} {it q Sd : Addr} {fp : List Addr} {tn : Nat → Heap → Prop} {xn : Str} {xp : Pos} {pins : List (Addr × Obj)} {σ : L2.St} {R : Result → Shared → Prop}
/-- the box is written: all else stands -/
theorem inv_box {H : Hp} {s : Shared} {h' : Heap} {t : Nat} (I : Inv X pins σ H s) (f : FpOk X pins H Sd) (k : ∀ b o, b ≠ Sd → s.heap.get? b = some o → h'.get? b = some o) : Inv X pins σ H { s with heap := h', toks := t } := by
  obtain ⟨f0, f1, f2, f3, f4, f5⟩ := f
  exact I.turned k f0 f1 f3 f4 f5
theorem upd_else {h : Heap} {f : Obj → Obj} : ∀ (b : Addr) (o : Obj), b ≠ Sd → h.get? b = some o → (h.update Sd f).get? b = some o := fun b o nb e => by
  rw [← e]; exact Heap.get?_update_other _ _ (Ne.symm nb)
theorem pin_box {H : Hp} {s : Shared} {o : Obj} (I : Inv X pins σ H s) (f : ∀ b ∈ Sd :: fp, FpOk X pins H b) (hd : s.heap.get? Sd = some o) (ho : ∀ v, o.data ≠ .cell v) : Inv (in1 X) (pins ++ pinsAt [Sd] s.heap) σ H s := by
  refine (inv_in1 I).pinned (fun b hb => ?_) fun b hb => ?_
  · simp only [List.mem_cons, List.not_mem_nil, or_false] at hb
    rw [hb]; exact f Sd List.mem_cons_self
  · simp only [List.mem_cons, List.not_mem_nil, or_false] at hb
    rw [hb]; exact ⟨o, hd, ho⟩
theorem fp_box {H : Hp} {h : Heap} (hS : Sd ∉ fp) (f : ∀ b ∈ Sd :: fp, FpOk X pins H b) : ∀ b ∈ fp, FpOk (in1 X) (pins ++ pinsAt [Sd] h) H b := fun b hb => fp_more (X := in1 X) (f b (List.mem_cons_of_mem _ hb)) fun z => hS (by rw [z]; exact hb)
theorem got_box {H : Hp} {s s' : Shared} {o : Obj} (hd : s.heap.get? Sd = some o) (I : Inv (in1 X) (pins ++ pinsAt [Sd] s.heap) σ H s') : s'.heap.get? Sd = some o ∧ H Sd = none := by
  have z := I.pin (Sd, o) (List.mem_append_right _ (List.mem_append_right _ (mem_pinsAt List.mem_cons_self hd)))
  exact ⟨z.1, z.2.1⟩
/-- an item of the walk and the def's answer for it -/
theorem key_turn (T : Turn X.prog X.w X.K (.Name xn xp) J fp it tn) (hc : X.calm = true) (C : Runs X q sp) (hS : Sd ∉ fp) {i : Nat} {H : Hp} {s : Shared} {o : Obj} {α : Type} {Qv : V → Hp → V → Hp → Prop} {cont : Value → Value → Sem α} {Q : α → Shared → Prop} {E : Value → Shared → Prop}
    {Ea : Value → Sem (Option Value)} {Eb : Value → Value → Sem Value} {K1 : Option Value → Sem α}
    (I : Inv X pins σ H s) (st : tn i s.heap) (f : ∀ b ∈ Sd :: fp, FpOk X pins H b) (hd : s.heap.get? Sd = some o) (ho : ∀ v, o.data ≠ .cell v) (go : J.go i H)
    (h : ∀ y H', J.yld i H y H' → sp [y] H' (Qv y H') (fun _ _ _ => False))
    (hQ : ∀ u kx s' y H' k H2, Inv X pins σ H2 s' → tn (i + 1) s'.heap → (∀ b ∈ Sd :: fp, FpOk X pins H2 b) → s'.heap.get? Sd = some o → RelV y u → RelV k kx → Qv y H' k H2 → wpAny (model X.prog X.w) X.A.in1 (cont u kx) Q E s')
    (hK : ∀ u, K1 (some u) = (tryCatch (holding [u] (call (.ref q) [u])) (Eb u) >>= cont u)) : wpAny (model X.prog X.w) X.A.in1 (tryCatch (pyNext (.ref it)) Ea >>= K1) Q E s := by
  have I0 := pin_box I f hd ho
  refine wpAny_bind (wpAny_tryCatch (wpAny_mono (T.item (in1 X) rfl rfl rfl hc i _ s σ H (fun _ _ => False) I0 (fp_box hS f) st go) (fun r s1 hr => ?_) fun _ _ z => z.elim))
  obtain ⟨u, rfl, h4⟩ := hr
  rw [hK u]
  refine let1 h4 fun s5 h5 => ?_
  obtain ⟨y, H5, I5, ry, hy, st5, fr5⟩ := h5
  obtain ⟨oS, nS⟩ := got_box hd I5
  have I5u : Inv (in1 X) pins σ H5 s5 := I5.unpinned
  have g5 : ∀ b ∈ Sd :: fp, FpOk (in1 X) pins H5 b := fun b hb => ⟨by
    rcases List.mem_cons.mp hb with z | z
    · rw [z]; exact nS
    · exact fr5 b z, (f b hb).2⟩
  have ob5 : ∀ b ∈ Sd :: fp, ∃ o', s5.heap.get? b = some o' ∧ ∀ v, o'.data ≠ .cell v := fun b hb => by
    rcases List.mem_cons.mp hb with z | z
    · rw [z]; exact ⟨o, oS, ho⟩
    · exact T.obj _ _ st5 b z
  have I6 := I5u.pinned g5 ob5
  refine wpAny_bind (wpAny_tryCatch (wpAny_holding (wpAny_mono (C _ σ H5 s5 y u _ _ I6 ry (h y H5 hy)) (fun kx s6 h6 => ?_) fun _ _ z => z)))
  obtain ⟨k, H6, I7, rk, qk⟩ := h6
  have pn : ∀ b ∈ Sd :: fp, ∀ o', s5.heap.get? b = some o' → s6.heap.get? b = some o' ∧ H6 b = none := fun b hb o' e => by
    have z := I7.pin (b, o') (List.mem_append_right _ (List.mem_append_right _ (mem_pinsAt hb e)))
    exact ⟨z.1, z.2.1⟩
  refine hQ u kx s6 y H5 k H6 (inv_out I.ok I7.unpinned) (T.keep _ _ _ st5 fun b hb o' e => (pn b (List.mem_cons_of_mem _ hb) o' e).1) (fun b hb => ?_) (pn Sd List.mem_cons_self o oS).1 ry rk qk
  obtain ⟨o', e, _⟩ := ob5 b hb
  exact ⟨(pn b hb o' e).2, (f b hb).2⟩

/-! #### max -/
theorem max_rest (T : Turn X.prog X.w X.K (.Name xn xp) J fp it tn) (hc : X.calm = true) (C : Runs X q sp) (hS : Sd ∉ fp) (hu : X.A.units + 1 + 64 < cLine) (Wk : KeyW X J n sp (fun d e => PySem.W.dataLt e d) W)
    (hR : ∀ x' k' H' s' vb', W n x' k' H' → Inv X pins σ H' s' → RelV x' vb' → R (.ok (.ret vb')) s') :
    ∀ (m i : Nat) (x k : V) (vb kb : Value) (H : Hp) (s : Shared) (c : Nat), n - i = m → i ≤ n → Inv X pins σ H s → tn i s.heap → (∀ b ∈ Sd :: fp, FpOk X pins H b) → s.heap.get? Sd = some (boxO [vb, kb] c) → RelV x vb → RelV k kb → W i x k H →
      codeAny (model X.prog X.w) X.A (.builtin "max.loop" ⟨[.ref it, .ref q, .ref Sd], []⟩) R s := by
  have nm : (toString "max" ++ toString ".loop" : String) = "max.loop" := by decide
  have nc : ∀ (l : List Value) (c : Nat) v, (boxO l c).data ≠ .cell v := fun l c v z => nomatch z
  intro m
  induction m with
  | zero =>
    intro i x k vb kb H s c hm hi I st f hd rx rk w0
    obtain rfl : i = n := by omega
    refine codeAny_builtin (F.entry_max_loop) (?_ : _); rw [(Around.under_plainId F.plain_max_loop _ : _)]
    show wpAny _ X.A.in1 (seqItems? (.ref Sd) >>= _) _ _ s
    refine wpAny_bind (wpAny_seqItems hd rfl ?_)
    show wpAny _ X.A.in1 (tryCatch (pyNext (.ref it)) _ >>= _) _ _ s
    refine wpAny_bind (wpAny_tryCatch (wpAny_mono (T.done (in1 X) rfl rfl rfl hc i _ s σ H (fun _ _ => False) (pin_box I f hd (nc _ _)) (fp_box hS f) st (Wk.stop x k H w0)) (fun r s1 hr => ?_) fun _ _ z => z.elim))
    obtain ⟨rfl, I1⟩ := hr
    obtain ⟨oS, _⟩ := got_box hd I1
    show wpAny _ X.A.in1 (updateSeq Sd (fun _ => #[]) >>= _) _ _ _
    refine wpAny_bind (wpAny_updateSeq oS rfl (wpAny_bind (wpAny_letGo (wpAny_pure ?_))))
    exact hR x k H _ vb w0 (inv_box (inv_out I.ok I1.unpinned) (f Sd List.mem_cons_self) upd_else) rx
  | succ m ih =>
    intro i x k vb kb H s c hm hi I st f hd rx rk w0
    have hlt : i < n := by omega
    refine codeAny_builtin (F.entry_max_loop) (?_ : _); rw [(Around.under_plainId F.plain_max_loop _ : _)]
    show wpAny _ X.A.in1 (seqItems? (.ref Sd) >>= _) _ _ s
    refine wpAny_bind (wpAny_seqItems hd rfl ?_)
    show wpAny _ X.A.in1 (tryCatch (pyNext (.ref it)) _ >>= _) _ _ s
    refine key_turn T hc C hS I st f hd (nc _ _) (Wk.go i x k H hlt w0) (fun y H' hy => Wk.step i x k H y H' hlt w0 hy) (fun u kx s6 y H5 k' H6 I6 st6 f6 hd6 ry rk' qk => ?_) (fun u => rfl)
    obtain ⟨d, e, dd, de, hl, w1⟩ := qk
    obtain ⟨as, r1⟩ := Dp.reads I6 d k' kx dd rk'
    obtain ⟨bs, r2⟩ := Dp.reads I6 e k kb de rk
    show wpAny _ X.A.in1 (tryCatch (holding [u, kx] (richCompare .Gt kx kb >>= _)) _ >>= _) _ _ _
    refine wpAny_bind (wpAny_tryCatch (wpAny_holding (wpAny_bind ?_)))
    refine PySem.W.rcGt_alike d e X.A.in1 s6 kx kb as bs r1 r2 hl.1 hl.2.1 (SeqAt.room_of_shaped hl.2.2.1 hu) _ _ _ _ ?_
    refine wpAny_bind (wpAny_holding (wpAny_truthy_bool (wpAny_bind (wpAny_letGo (wpAny_pure ?_)))))
    cases hb : PySem.W.dataLt e d with
    | true =>
      simp only [hb, if_true] at w1 ⊢
      refine wpAny_bind (wpAny_updateSeq hd6 rfl (wpAny_bind (wpAny_letGo ?_)))
      rw [nm]
      have gg : (s6.heap.update Sd (Obj.mapSeq fun _ => #[u, kx])).get? Sd = some (boxO [u, kx] _) := Heap.get?_update_self (Obj.mapSeq fun _ => #[u, kx]) hd6 rfl
      have nb : ∀ b ∈ fp, b ≠ Sd := fun b hb z => hS (by rw [← z]; exact hb)
      refine wpAny_pure ⟨plainId_quiet F.plain_max_loop _, ih (i + 1) y k' u kx H6 _ _ (by omega) hlt (inv_box I6 (f6 Sd List.mem_cons_self) upd_else) (T.keep _ _ _ st6 fun b hb o e => upd_else b o (nb b hb) e) f6 gg ry rk' w1⟩
    | false =>
      simp only [hb, Bool.false_eq_true, if_false] at w1 ⊢
      refine wpAny_bind (wpAny_letGo ?_)
      rw [nm]
      exact wpAny_pure ⟨plainId_quiet F.plain_max_loop _, ih (i + 1) x k vb kb H6 s6 c (by omega) hlt I6 st6 f6 hd6 rx rk w1⟩
/-- from the empty box on: the first item begins -/
theorem max_all (T : Turn X.prog X.w X.K (.Name xn xp) J fp it tn) (hc : X.calm = true) (C : Runs X q sp) (hS : Sd ∉ fp) (hu : X.A.units + 1 + 64 < cLine) (Wk : KeyW X J n sp (fun d e => PySem.W.dataLt e d) W)
    (hR : ∀ x' k' H' s' vb', W n x' k' H' → Inv X pins σ H' s' → RelV x' vb' → R (.ok (.ret vb')) s') {H : Hp} {s : Shared} {c : Nat} (hn : 1 ≤ n)
    (I : Inv X pins σ H s) (st : tn 0 s.heap) (f : ∀ b ∈ Sd :: fp, FpOk X pins H b) (hd : s.heap.get? Sd = some (boxO [] c)) (go : J.go 0 H) (h0 : ∀ y H', J.yld 0 H y H' → sp [y] H' (fun k' H2 => W 1 y k' H2) (fun _ _ _ => False)) :
    codeAny (model X.prog X.w) X.A (.builtin "max.loop" ⟨[.ref it, .ref q, .ref Sd], []⟩) R s := by
  have nm : (toString "max" ++ toString ".loop" : String) = "max.loop" := by decide
  have nc : ∀ (l : List Value) (c : Nat) v, (boxO l c).data ≠ .cell v := fun l c v z => nomatch z
  refine codeAny_builtin (F.entry_max_loop) (?_ : _); rw [(Around.under_plainId F.plain_max_loop _ : _)]
  show wpAny _ X.A.in1 (seqItems? (.ref Sd) >>= _) _ _ s
  refine wpAny_bind (wpAny_seqItems hd rfl ?_)
  show wpAny _ X.A.in1 (tryCatch (pyNext (.ref it)) _ >>= _) _ _ s
  refine key_turn (Qv := fun y _ k' H2 => W 1 y k' H2) T hc C hS I st f hd (nc _ _) go h0 (fun u kx s6 y H5 k' H6 I6 st6 f6 hd6 ry rk' qk => ?_) (fun u => rfl)
  show wpAny _ X.A.in1 (updateSeq Sd (fun _ => #[u, kx]) >>= _) _ _ _
  refine wpAny_bind (wpAny_updateSeq hd6 rfl ?_)
  rw [nm]
  have gg : (s6.heap.update Sd (Obj.mapSeq fun _ => #[u, kx])).get? Sd = some (boxO [u, kx] _) := Heap.get?_update_self (Obj.mapSeq fun _ => #[u, kx]) hd6 rfl
  have nb : ∀ b ∈ fp, b ≠ Sd := fun b hb z => hS (by rw [← z]; exact hb)
  refine wpAny_pure ⟨plainId_quiet F.plain_max_loop _, max_rest T hc C hS hu Wk hR (n - 1) 1 y k' u kx H6 _ _ rfl hn (inv_box I6 (f6 Sd List.mem_cons_self) upd_else) (T.keep _ _ _ st6 fun b hb o e => upd_else b o (nb b hb) e) f6 gg ry rk' qk⟩

/-! #### min -/
theorem min_rest (T : Turn X.prog X.w X.K (.Name xn xp) J fp it tn) (hc : X.calm = true) (C : Runs X q sp) (hS : Sd ∉ fp) (hu : X.A.units + 1 + 64 < cLine) (Wk : KeyW X J n sp (fun d e => PySem.W.dataLt d e) W)
    (hR : ∀ x' k' H' s' vb', W n x' k' H' → Inv X pins σ H' s' → RelV x' vb' → R (.ok (.ret vb')) s') :
    ∀ (m i : Nat) (x k : V) (vb kb : Value) (H : Hp) (s : Shared) (c : Nat), n - i = m → i ≤ n → Inv X pins σ H s → tn i s.heap → (∀ b ∈ Sd :: fp, FpOk X pins H b) → s.heap.get? Sd = some (boxO [vb, kb] c) → RelV x vb → RelV k kb → W i x k H →
      codeAny (model X.prog X.w) X.A (.builtin "min.loop" ⟨[.ref it, .ref q, .ref Sd], []⟩) R s := by
  have nm : (toString "min" ++ toString ".loop" : String) = "min.loop" := by decide
  have nc : ∀ (l : List Value) (c : Nat) v, (boxO l c).data ≠ .cell v := fun l c v z => nomatch z
  intro m
  induction m with
  | zero =>
    intro i x k vb kb H s c hm hi I st f hd rx rk w0
    obtain rfl : i = n := by omega
    refine codeAny_builtin (F.entry_min_loop) (?_ : _); rw [(Around.under_plainId F.plain_min_loop _ : _)]
    show wpAny _ X.A.in1 (seqItems? (.ref Sd) >>= _) _ _ s
    refine wpAny_bind (wpAny_seqItems hd rfl ?_)
    show wpAny _ X.A.in1 (tryCatch (pyNext (.ref it)) _ >>= _) _ _ s
    refine wpAny_bind (wpAny_tryCatch (wpAny_mono (T.done (in1 X) rfl rfl rfl hc i _ s σ H (fun _ _ => False) (pin_box I f hd (nc _ _)) (fp_box hS f) st (Wk.stop x k H w0)) (fun r s1 hr => ?_) fun _ _ z => z.elim))
    obtain ⟨rfl, I1⟩ := hr
    obtain ⟨oS, _⟩ := got_box hd I1
    show wpAny _ X.A.in1 (updateSeq Sd (fun _ => #[]) >>= _) _ _ _
    refine wpAny_bind (wpAny_updateSeq oS rfl (wpAny_bind (wpAny_letGo (wpAny_pure ?_))))
    exact hR x k H _ vb w0 (inv_box (inv_out I.ok I1.unpinned) (f Sd List.mem_cons_self) upd_else) rx
  | succ m ih =>
    intro i x k vb kb H s c hm hi I st f hd rx rk w0
    have hlt : i < n := by omega
    refine codeAny_builtin (F.entry_min_loop) (?_ : _); rw [(Around.under_plainId F.plain_min_loop _ : _)]
    show wpAny _ X.A.in1 (seqItems? (.ref Sd) >>= _) _ _ s
    refine wpAny_bind (wpAny_seqItems hd rfl ?_)
    show wpAny _ X.A.in1 (tryCatch (pyNext (.ref it)) _ >>= _) _ _ s
    refine key_turn T hc C hS I st f hd (nc _ _) (Wk.go i x k H hlt w0) (fun y H' hy => Wk.step i x k H y H' hlt w0 hy) (fun u kx s6 y H5 k' H6 I6 st6 f6 hd6 ry rk' qk => ?_) (fun u => rfl)
    obtain ⟨d, e, dd, de, hl, w1⟩ := qk
    obtain ⟨as, r1⟩ := Dp.reads I6 d k' kx dd rk'
    obtain ⟨bs, r2⟩ := Dp.reads I6 e k kb de rk
    show wpAny _ X.A.in1 (tryCatch (holding [u, kx] (richCompare .Lt kx kb >>= _)) _ >>= _) _ _ _
    refine wpAny_bind (wpAny_tryCatch (wpAny_holding (wpAny_bind ?_)))
    refine PySem.W.rcLt_alike d e X.A.in1 s6 kx kb as bs r1 r2 hl.1 hl.2.1 (SeqAt.room_of_shaped hl.2.2.1 hu) _ _ _ _ ?_
    refine wpAny_bind (wpAny_holding (wpAny_truthy_bool (wpAny_bind (wpAny_letGo (wpAny_pure ?_)))))
    cases hb : PySem.W.dataLt d e with
    | true =>
      simp only [hb, if_true] at w1 ⊢
      refine wpAny_bind (wpAny_updateSeq hd6 rfl (wpAny_bind (wpAny_letGo ?_)))
      rw [nm]
      have gg : (s6.heap.update Sd (Obj.mapSeq fun _ => #[u, kx])).get? Sd = some (boxO [u, kx] _) := Heap.get?_update_self (Obj.mapSeq fun _ => #[u, kx]) hd6 rfl
      have nb : ∀ b ∈ fp, b ≠ Sd := fun b hb z => hS (by rw [← z]; exact hb)
      refine wpAny_pure ⟨plainId_quiet F.plain_min_loop _, ih (i + 1) y k' u kx H6 _ _ (by omega) hlt (inv_box I6 (f6 Sd List.mem_cons_self) upd_else) (T.keep _ _ _ st6 fun b hb o e => upd_else b o (nb b hb) e) f6 gg ry rk' w1⟩
    | false =>
      simp only [hb, Bool.false_eq_true, if_false] at w1 ⊢
      refine wpAny_bind (wpAny_letGo ?_)
      rw [nm]
      exact wpAny_pure ⟨plainId_quiet F.plain_min_loop _, ih (i + 1) x k vb kb H6 s6 c (by omega) hlt I6 st6 f6 hd6 rx rk w1⟩
/-- from the empty box on: the first item begins -/
theorem min_all (T : Turn X.prog X.w X.K (.Name xn xp) J fp it tn) (hc : X.calm = true) (C : Runs X q sp) (hS : Sd ∉ fp) (hu : X.A.units + 1 + 64 < cLine) (Wk : KeyW X J n sp (fun d e => PySem.W.dataLt d e) W)
    (hR : ∀ x' k' H' s' vb', W n x' k' H' → Inv X pins σ H' s' → RelV x' vb' → R (.ok (.ret vb')) s') {H : Hp} {s : Shared} {c : Nat} (hn : 1 ≤ n)
    (I : Inv X pins σ H s) (st : tn 0 s.heap) (f : ∀ b ∈ Sd :: fp, FpOk X pins H b) (hd : s.heap.get? Sd = some (boxO [] c)) (go : J.go 0 H) (h0 : ∀ y H', J.yld 0 H y H' → sp [y] H' (fun k' H2 => W 1 y k' H2) (fun _ _ _ => False)) :
    codeAny (model X.prog X.w) X.A (.builtin "min.loop" ⟨[.ref it, .ref q, .ref Sd], []⟩) R s := by
  have nm : (toString "min" ++ toString ".loop" : String) = "min.loop" := by decide
  have nc : ∀ (l : List Value) (c : Nat) v, (boxO l c).data ≠ .cell v := fun l c v z => nomatch z
  refine codeAny_builtin (F.entry_min_loop) (?_ : _); rw [(Around.under_plainId F.plain_min_loop _ : _)]
  show wpAny _ X.A.in1 (seqItems? (.ref Sd) >>= _) _ _ s
  refine wpAny_bind (wpAny_seqItems hd rfl ?_)
  show wpAny _ X.A.in1 (tryCatch (pyNext (.ref it)) _ >>= _) _ _ s
  refine key_turn (Qv := fun y _ k' H2 => W 1 y k' H2) T hc C hS I st f hd (nc _ _) go h0 (fun u kx s6 y H5 k' H6 I6 st6 f6 hd6 ry rk' qk => ?_) (fun u => rfl)
  show wpAny _ X.A.in1 (updateSeq Sd (fun _ => #[u, kx]) >>= _) _ _ _
  refine wpAny_bind (wpAny_updateSeq hd6 rfl ?_)
  rw [nm]
  have gg : (s6.heap.update Sd (Obj.mapSeq fun _ => #[u, kx])).get? Sd = some (boxO [u, kx] _) := Heap.get?_update_self (Obj.mapSeq fun _ => #[u, kx]) hd6 rfl
  have nb : ∀ b ∈ fp, b ≠ Sd := fun b hb z => hS (by rw [← z]; exact hb)
  refine wpAny_pure ⟨plainId_quiet F.plain_min_loop _, min_rest T hc C hS hu Wk hR (n - 1) 1 y k' u kx H6 _ _ rfl hn (inv_box I6 (f6 Sd List.mem_cons_self) upd_else) (T.keep _ _ _ st6 fun b hb o e => upd_else b o (nb b hb) e) f6 gg ry rk' qk⟩

end
section
variable {P : Program} {w : World} {A : Around} {E : Value → Shared → Prop} {s : Shared} {q : Addr} {Q : Value → Shared → Prop}
/-- the answer of a built-in's own loop -/
def RetR (Q : Value → Shared → Prop) (E : Value → Shared → Prop) (r : Result) (s' : Shared) : Prop := match r with
  | .ok (.ret v) => Q v s'
  | .ok _ => False
  | .error e => E e s'
theorem argsk_max2 (a b v : Value) : argsOk "max" ⟨[a, b], [(Str.ofString "key", v)]⟩ := by unfold argsOk; kernel_rfl
theorem call_maxK1 {x : Value} (h : wpAny (model P w) A.in1 (pyIter x) (fun itv s2 => codeAny (model P w) A (.builtin "max.loop" ⟨[itv, .ref q, .ref s2.heap.objs.size], []⟩) (RetR Q E) { s2 with heap := s2.heap.push (boxO [] 0) }) E s) :
    wpAny (model P w) A (call (.builtin "max") [x] [(Str.ofString "key", .ref q)]) Q E s := by
  have nm : (toString "max" ++ toString ".loop" : String) = "max.loop" := by decide
  refine kmk_tree F.kind_max F.plain_max F.entry_max (kmk_max_key _ _) ?_
  show wpAny _ A.in1 (Builtin.Builtins.bindParams "max" ["key", "default"] 0 ⟨[], [(Str.ofString "key", .ref q)]⟩ >>= _) _ _ s
  refine wpAny_bind (wpAny_of_eq (a := [some (.ref q), none]) (by rfl) (wpAny_bind (wpAny_pure (wpAny_bind (wpAny_mono h (fun itv s2 h2 => ?_) fun _ _ z => z)))))
  refine wpAny_bind (wpAny_newObj_type ?_)
  rw [nm]
  exact wpAny_pure ⟨plainId_quiet F.plain_max_loop _, h2⟩
theorem call_maxK2 {x y : Value} (h : wpAny (model P w) A.in1 (pyIter (.ref s.heap.objs.size)) (fun itv s2 => codeAny (model P w) A (.builtin "max.loop" ⟨[itv, .ref q, .ref s2.heap.objs.size], []⟩) (RetR Q E) { s2 with heap := s2.heap.push (boxO [] 0) }) E { s with heap := s.heap.push { cls := .type "tuple", data := .seq #[x, y] } }) :
    wpAny (model P w) A (call (.builtin "max") [x, y] [(Str.ofString "key", .ref q)]) Q E s := by
  have nm : (toString "max" ++ toString ".loop" : String) = "max.loop" := by decide
  refine kmk_tree F.kind_max F.plain_max F.entry_max (argsk_max2 _ _ _) ?_
  show wpAny _ A.in1 (Builtin.Builtins.bindParams "max" ["key", "default"] 0 ⟨[], [(Str.ofString "key", .ref q)]⟩ >>= _) _ _ s
  refine wpAny_bind (wpAny_of_eq (a := [some (.ref q), none]) (by rfl) ?_)
  show wpAny _ A.in1 (newTuple [x, y] >>= _) _ _ s
  refine wpAny_bind (wpAny_newTuple (wpAny_bind (wpAny_mono h (fun itv s2 h2 => ?_) fun _ _ z => z)))
  refine wpAny_bind (wpAny_newObj_type ?_)
  rw [nm]
  exact wpAny_pure ⟨plainId_quiet F.plain_max_loop _, h2⟩
theorem argsk_min2 (a b v : Value) : argsOk "min" ⟨[a, b], [(Str.ofString "key", v)]⟩ := by unfold argsOk; kernel_rfl
theorem call_minK1 {x : Value} (h : wpAny (model P w) A.in1 (pyIter x) (fun itv s2 => codeAny (model P w) A (.builtin "min.loop" ⟨[itv, .ref q, .ref s2.heap.objs.size], []⟩) (RetR Q E) { s2 with heap := s2.heap.push (boxO [] 0) }) E s) :
    wpAny (model P w) A (call (.builtin "min") [x] [(Str.ofString "key", .ref q)]) Q E s := by
  have nm : (toString "min" ++ toString ".loop" : String) = "min.loop" := by decide
  refine kmk_tree F.kind_min F.plain_min F.entry_min (kmk_min_key _ _) ?_
  show wpAny _ A.in1 (Builtin.Builtins.bindParams "min" ["key", "default"] 0 ⟨[], [(Str.ofString "key", .ref q)]⟩ >>= _) _ _ s
  refine wpAny_bind (wpAny_of_eq (a := [some (.ref q), none]) (by rfl) (wpAny_bind (wpAny_pure (wpAny_bind (wpAny_mono h (fun itv s2 h2 => ?_) fun _ _ z => z)))))
  refine wpAny_bind (wpAny_newObj_type ?_)
  rw [nm]
  exact wpAny_pure ⟨plainId_quiet F.plain_min_loop _, h2⟩
theorem call_minK2 {x y : Value} (h : wpAny (model P w) A.in1 (pyIter (.ref s.heap.objs.size)) (fun itv s2 => codeAny (model P w) A (.builtin "min.loop" ⟨[itv, .ref q, .ref s2.heap.objs.size], []⟩) (RetR Q E) { s2 with heap := s2.heap.push (boxO [] 0) }) E { s with heap := s.heap.push { cls := .type "tuple", data := .seq #[x, y] } }) :
    wpAny (model P w) A (call (.builtin "min") [x, y] [(Str.ofString "key", .ref q)]) Q E s := by
  have nm : (toString "min" ++ toString ".loop" : String) = "min.loop" := by decide
  refine kmk_tree F.kind_min F.plain_min F.entry_min (argsk_min2 _ _ _) ?_
  show wpAny _ A.in1 (Builtin.Builtins.bindParams "min" ["key", "default"] 0 ⟨[], [(Str.ofString "key", .ref q)]⟩ >>= _) _ _ s
  refine wpAny_bind (wpAny_of_eq (a := [some (.ref q), none]) (by rfl) ?_)
  show wpAny _ A.in1 (newTuple [x, y] >>= _) _ _ s
  refine wpAny_bind (wpAny_newTuple (wpAny_bind (wpAny_mono h (fun itv s2 h2 => ?_) fun _ _ z => z)))
  refine wpAny_bind (wpAny_newObj_type ?_)
  rw [nm]
  exact wpAny_pure ⟨plainId_quiet F.plain_min_loop _, h2⟩
end
end
end Z
end

section
set_option Elab.async false
set_option linter.all false
set_option maxRecDepth 100000
set_option maxHeartbeats 1000000
namespace Z
noncomputable section
open PySem PySem.Spec PyProof.Rows L2
/-! ### the best item by an own def's answers, as data -/
open Classical in
def keyGo (F : FD) (f : PyData → PyData → Bool) (S : Sto) : D → D → List D → R D
  | x, _, [] => .ok x S
  | x, k, y :: ys => match F [y] S with
    | .ok k' S' => if S' = S then (match pyS S k', pyS S k with
      | some d, some e => if LtOk d e then (if f d e then keyGo F f S y k' ys else keyGo F f S x k ys) else .bad
      | _, _ => .bad) else .bad
    | _ => .bad
open Classical in
def keyAll (F : FD) (f : PyData → PyData → Bool) (S : Sto) : List D → R D
  | [] => .bad
  | x :: xs => match F [x] S with
    | .ok k S' => if S' = S then keyGo F f S x k xs else .bad
    | _ => .bad
def dKeyT (F : FD) (f : PyData → PyData → Bool) (a : DenA) : Den := fun env S => (a env S).bind fun ds S1 => if ds.length = 2 then keyAll F f S1 ds else .bad
def dKeyL (F : FD) (f : PyData → PyData → Bool) (a : DenA) : Den := fun env S => (a env S).bind fun ds S1 => match ds with
  | [d] => match lstOf S1 d with
    | some xs => keyAll F f S1 xs
    | none => .bad
  | _ => .bad
def gtP (d e : PyData) : Bool := PySem.W.dataLt e d
def ltP (d e : PyData) : Bool := PySem.W.dataLt d e
section
variable {X : Cx} {W : WX} {σ : L2.St} {Q : VK} {F : FD} {f : PyData → PyData → Bool} {S : Sto} {dl : D} {v : V} {ds : List D}
def KInv (X : Cx) (W : WX) (σ : L2.St) (Q : VK) (F : FD) (f : PyData → PyData → Bool) (S : Sto) (dl : D) (v : V) (ds : List D) (i : Nat) (x k : V) (H : Hp) : Prop :=
  ∃ ι dx dk, Sr X.K H ι S ∧ Rp X.K H ι v dl ∧ Rp X.K H ι x dx ∧ Rp X.K H ι k dk ∧ Post X.K X.mg (Rp X.K) W σ ι H (keyGo F f S dx dk (ds.drop i)) Q
/-- how the walk reads the items -/
structure Src (X : Cx) (S : Sto) (dl : D) (v : V) (ds : List D) (J : It) (Sq : Hp → List V → Prop) : Prop where
  rd : ∀ H ι, Sr X.K H ι S → Rp X.K H ι v dl → ∃ vs, Sq H vs ∧ Rps X.K H ι vs ds
  go : ∀ i H vs x, Sq H vs → vs[i]? = some x → J.go i H
  stop : ∀ H vs, Sq H vs → J.stop vs.length H
  yld : ∀ i H y H' vs, Sq H vs → J.yld i H y H' → H' = H ∧ vs[i]? = some y
theorem keyW {J : It} {Sq : Hp → List V → Prop} (C : Src X S dl v ds J Sq) : KeyW X J ds.length (spOf X.K X.mg 1 F) f (KInv X W σ Q F f S dl v ds) := by
  refine ⟨fun i x k H hi w0 => ?_, fun x k H w0 => ?_, fun i x k H y H' hi w0 hy => ?_⟩
  · obtain ⟨ι, dx, dk, s, rv, rx, rk, p⟩ := w0
    obtain ⟨vs, sq, r⟩ := C.rd H ι s rv
    have hl : i < vs.length := by rw [r.length]; exact hi
    exact C.go i H vs _ sq (List.getElem?_eq_getElem hl)
  · obtain ⟨ι, dx, dk, s, rv, rx, rk, p⟩ := w0
    obtain ⟨vs, sq, r⟩ := C.rd H ι s rv
    rw [← r.length]
    exact C.stop H vs sq
  · obtain ⟨ι, dx, dk, s, rv, rx, rk, p⟩ := w0
    obtain ⟨vs, sq, r⟩ := C.rd H ι s rv
    obtain ⟨rfl, hv⟩ := C.yld i H y H' vs sq hy
    obtain ⟨dy, hd, ry⟩ := r.getV hv
    have ed : ds.drop i = dy :: ds.drop (i + 1) := by
      obtain ⟨h1, h2⟩ := List.getElem?_eq_some_iff.mp hd
      rw [List.drop_eq_getElem_cons h1, h2]
    rw [ed, keyGo] at p
    refine ⟨rfl, ι, [dy], S, s, .cons ry .nil, ?_⟩
    cases hF : F [dy] S with
    | ok k' S' =>
      rw [hF] at p
      simp only at p
      split at p
      · rename_i hS
        subst hS
        split at p
        · rename_i d e h1 h2
          split at p
          · rename_i hl
            intro ι2 H2 vk e2 s2 rk2
            refine ⟨d, e, dpS_of s2 rk2 h1, dpS_of s2 (rk.ext e2) h2, hl, ?_⟩
            cases hb : f d e with
            | true =>
              rw [hb, if_pos rfl] at p
              exact ⟨ι2, dy, k', s2, rv.ext e2, ry.ext e2, rk2, p.ext e2 s2⟩
            | false =>
              rw [hb, if_neg Bool.false_ne_true] at p
              exact ⟨ι2, dx, dk, s2, rv.ext e2, rx.ext e2, rk.ext e2, p.ext e2 s2⟩
          · exact p.elim
        · exact p.elim
      · exact p.elim
    | ex c fs S' => rw [hF] at p; exact p.elim
    | bad => rw [hF] at p; exact p.elim
/-- the first item -/
theorem key_first {x : D} {xs : List D} {H : Hp} {ι : Em} {y : V} (hds : ds = x :: xs) (s : Sr X.K H ι S) (rv : Rp X.K H ι v dl) (ry : Rp X.K H ι y x) (p : Post X.K X.mg (Rp X.K) W σ ι H (keyAll F f S ds) Q) :
    spOf X.K X.mg 1 F [y] H (fun k' H2 => KInv X W σ Q F f S dl v ds 1 y k' H2) (fun _ _ _ => False) := by
  subst hds
  rw [keyAll] at p
  refine ⟨rfl, ι, [x], S, s, .cons ry .nil, ?_⟩
  cases hF : F [x] S with
  | ok k' S' =>
    rw [hF] at p
    simp only at p
    split at p
    · rename_i hS
      subst hS
      intro ι2 H2 vk e2 s2 rk2
      exact ⟨ι2, x, k', s2, rv.ext e2, ry.ext e2, rk2, by rw [List.drop_succ_cons, List.drop_zero]; exact p.ext e2 s2⟩
    · exact p.elim
  | ex c fs S' => rw [hF] at p; exact p.elim
  | bad => rw [hF] at p; exact p.elim
theorem key_last {x k : V} {H : Hp} (w0 : KInv X W σ Q F f S dl v ds ds.length x k H) : Q x H := by
  obtain ⟨ι, dx, dk, s, rv, rx, rk, p⟩ := w0
  rw [List.drop_length, keyGo] at p
  exact p.ret s rx
theorem src_tup {a : Addr} : Src X S (.tup ds) (.ref a) ds (Itt X.K a) (fun H vs => SqT X.K H a vs) :=
  ⟨fun H ι s r => by obtain ⟨b, vs, e, h1, h2⟩ := r.tup_inv; cases e; exact ⟨vs, h1, h2⟩, fun i H vs x sq e => ⟨vs, x, sq, e⟩, fun H vs sq => ⟨vs, sq, Nat.le_refl _⟩, fun i H y H' vs sq z => ⟨z.1, z.2 vs sq⟩⟩
theorem src_lst {a : Addr} (e : lstOf S dl = some ds) : Src X S dl (.ref a) ds (Itl X.K a) (fun H vs => SqL X.K H a vs) :=
  ⟨fun H ι s r => by obtain ⟨b, vs, e1, h1, h2⟩ := lst_inv s r e; cases e1; exact ⟨vs, h1, h2⟩, fun i H vs x sq e => ⟨vs, x, sq, e⟩, fun H vs sq => ⟨vs, sq, Nat.le_refl _⟩, fun i H y H' vs sq z => ⟨z.1, z.2 vs sq⟩⟩
end
/-! ### the two calls -/
def rK2 (X : Cx) (q : Addr) (sp : Sp) (bt : PyData → PyData → Bool) : List V → List V → Hp → VK → Prop := fun vs zs H Q => zs = [.ref q] ∧ ∃ a b, vs = [a, b] ∧ ∀ T, H T = none → ∃ W, KeyW X (Itt X.K T) 2 sp bt W ∧
  sp [a] (upd H T (.tup [a, b])) (fun k' H2 => W 1 a k' H2) (fun _ _ _ => False) ∧ ∀ x k H', W 2 x k H' → Q x H'
def rK1 (X : Cx) (q : Addr) (sp : Sp) (bt : PyData → PyData → Bool) : List V → List V → Hp → VK → Prop := fun vs zs H Q => zs = [.ref q] ∧ ∃ a ys W, vs = [.ref a] ∧ SqL X.K H a ys ∧ 1 ≤ ys.length ∧ KeyW X (Itl X.K a) ys.length sp bt W ∧
  (∀ y, ys[0]? = some y → sp [y] H (fun k' H2 => W 1 y k' H2) (fun _ _ _ => False)) ∧ ∀ x k H', W ys.length x k H' → Q x H'
section
variable {X : Cx} {q : Addr} {sp : Sp}
theorem fp_two {pins : List (Addr × Obj)} {σ : L2.St} {H : Hp} {s : Shared} (I : Inv X pins σ H s) : ∀ b ∈ (s.heap.objs.size + 1) :: [s.heap.objs.size], FpOk X pins H b := fun b hb => by
  have hle : s.heap.objs.size ≤ b := by
    simp only [List.mem_cons, List.not_mem_nil, or_false] at hb
    rcases hb with z | z <;> omega
  exact I.fpOk hle (I.hok.fresh hle)
theorem cr_max2 (hc : X.calm = true) (C : Runs X q sp) (hu : X.A.units + 1 + 64 < cLine) : CallRK X (.builtin "max") [Str.ofString "key"] (rK2 X q sp gtP) := by
  intro pins s σ H xs zs us ws Q I rx rz h
  obtain ⟨rfl, a, b, rfl, h⟩ := h
  obtain ⟨u1, u2, rfl, r1, r2⟩ := vals2 rx
  obtain ⟨w1, rfl, rw1⟩ := vals1 rz
  cases rw1
  have hT := I.hok.fresh (Nat.le_refl s.heap.objs.size)
  obtain ⟨W, Wk, h0, hQ⟩ := h s.heap.objs.size hT
  refine call_maxK2 ?_
  have pr : Vals [a, b] [u1, u2] := .cons r1 (.cons r2 .nil)
  have gT : (s.heap.push { cls := .type "tuple", data := .seq #[u1, u2] }).get? s.heap.objs.size = some { cls := .type "tuple", data := .seq #[u1, u2] } := Heap.get?_push_size _ rfl
  have I1 : Inv X pins σ (upd H s.heap.objs.size (.tup [a, b])) { s with heap := s.heap.push { cls := .type "tuple", data := .seq #[u1, u2] } } :=
    I.laid (t' := s.toks) (fun b u e => Heap.get?_push_of_some _ e) (Nat.le_refl _) ⟨(by decide : 2 ≤ sizeLine), _, pr, ⟨_, gT, rfl, _, rfl⟩⟩
  have sq : SqT X.K (upd H s.heap.objs.size (.tup [a, b])) s.heap.objs.size [a, b] := .inl (.inl upd_same)
  obtain ⟨its, rv, p, hz⟩ := I1.tuple sq
  refine wpAny_pyIter_tuple (show Heap.IsTuple _ s.heap.objs.size its.toArray from p) ?_
  have I3 := I1.kept (t' := s.toks) (h' := ((s.heap.push { cls := .type "tuple", data := .seq #[u1, u2] }).push { cls := .type "tuple_iterator", data := .fields #[.ref s.heap.objs.size, .int 0 0] }).push (boxO [] 0)) fun b o e => Heap.get?_push_of_some _ (Heap.get?_push_of_some _ e)
  have z1 : ((s.heap.push { cls := .type "tuple", data := .seq #[u1, u2] }).push { cls := .type "tuple_iterator", data := .fields #[.ref s.heap.objs.size, .int 0 0] }).objs.size = (s.heap.push { cls := .type "tuple", data := .seq #[u1, u2] }).objs.size + 1 := Heap.size_push ..
  have gb := Heap.get?_push_size ((s.heap.push { cls := .type "tuple", data := .seq #[u1, u2] }).push { cls := .type "tuple_iterator", data := .fields #[.ref s.heap.objs.size, .int 0 0] }) (o := boxO [] 0) rfl
  rw [z1] at gb
  show codeAny (model X.prog X.w) X.A (.builtin "max.loop" ⟨[.ref (s.heap.push { cls := .type "tuple", data := .seq #[u1, u2] }).objs.size, .ref q, .ref ((s.heap.push { cls := .type "tuple", data := .seq #[u1, u2] }).push { cls := .type "tuple_iterator", data := .fields #[.ref s.heap.objs.size, .int 0 0] }).objs.size], []⟩) _ _
  rw [z1]
  refine max_all (xn := "x") (xp := ⟨0, 0, 0, 0⟩) (turn_tuple _ _) hc C (fun z => ?_) hu Wk (fun x k H' s' vb w0 I' r' => ⟨x, H', I', r', hQ x k H' w0⟩) (by decide) I3 ⟨_, Heap.get?_push_of_some _ (Heap.get?_push_size _ rfl), rfl, rfl⟩ (fp_two I1) gb ⟨[a, b], a, sq, rfl⟩ fun y H' hy => ?_
  · simp only [List.mem_cons, List.not_mem_nil, or_false] at z
    exact absurd z (Nat.succ_ne_self _)
  · obtain ⟨rfl, hy2⟩ := hy
    have e := hy2 [a, b] sq
    cases e
    exact h0
theorem cr_max1 (hc : X.calm = true) (C : Runs X q sp) (hu : X.A.units + 1 + 64 < cLine) : CallRK X (.builtin "max") [Str.ofString "key"] (rK1 X q sp gtP) := by
  intro pins s σ H xs zs us ws Q I rx rz h
  obtain ⟨rfl, a, ys, W, rfl, sq, hn, Wk, h0, hQ⟩ := h
  obtain ⟨u1, rfl, r1⟩ := vals1 rx
  obtain ⟨w1, rfl, rw1⟩ := vals1 rz
  cases rw1
  cases r1
  refine call_maxK1 ?_
  obtain ⟨its, rv, p, hz⟩ := I.list sq
  refine wpAny_pyIter_list p.isList ?_
  have I3 := I.kept (t' := s.toks) (h' := (s.heap.push { cls := .type "list_iterator", data := .fields #[.ref a, .int 0 0] }).push (boxO [] 0)) fun b o e => Heap.get?_push_of_some _ (Heap.get?_push_of_some _ e)
  have z1 : (s.heap.push { cls := .type "list_iterator", data := .fields #[.ref a, .int 0 0] }).objs.size = s.heap.objs.size + 1 := Heap.size_push ..
  have gb := Heap.get?_push_size (s.heap.push { cls := .type "list_iterator", data := .fields #[.ref a, .int 0 0] }) (o := boxO [] 0) rfl
  rw [z1] at gb
  show codeAny (model X.prog X.w) X.A (.builtin "max.loop" ⟨[.ref s.heap.objs.size, .ref q, .ref (s.heap.push { cls := .type "list_iterator", data := .fields #[.ref a, .int 0 0] }).objs.size], []⟩) _ _
  rw [z1]
  refine max_all (xn := "x") (xp := ⟨0, 0, 0, 0⟩) (turn_list _ _) hc C (fun z => ?_) hu Wk (fun x k H' s' vb w0 I' r' => ⟨x, H', I', r', hQ x k H' w0⟩) hn I3 ⟨_, Heap.get?_push_of_some _ (Heap.get?_push_size _ rfl), rfl, rfl⟩ (fp_two I) gb ⟨ys, _, sq, List.getElem?_eq_getElem hn⟩ fun y H' hy => ?_
  · simp only [List.mem_cons, List.not_mem_nil, or_false] at z
    exact absurd z (Nat.succ_ne_self _)
  · obtain ⟨rfl, hy2⟩ := hy
    exact h0 y (hy2 ys sq)
theorem cr_min2 (hc : X.calm = true) (C : Runs X q sp) (hu : X.A.units + 1 + 64 < cLine) : CallRK X (.builtin "min") [Str.ofString "key"] (rK2 X q sp ltP) := by
  intro pins s σ H xs zs us ws Q I rx rz h
  obtain ⟨rfl, a, b, rfl, h⟩ := h
  obtain ⟨u1, u2, rfl, r1, r2⟩ := vals2 rx
  obtain ⟨w1, rfl, rw1⟩ := vals1 rz
  cases rw1
  have hT := I.hok.fresh (Nat.le_refl s.heap.objs.size)
  obtain ⟨W, Wk, h0, hQ⟩ := h s.heap.objs.size hT
  refine call_minK2 ?_
  have pr : Vals [a, b] [u1, u2] := .cons r1 (.cons r2 .nil)
  have gT : (s.heap.push { cls := .type "tuple", data := .seq #[u1, u2] }).get? s.heap.objs.size = some { cls := .type "tuple", data := .seq #[u1, u2] } := Heap.get?_push_size _ rfl
  have I1 : Inv X pins σ (upd H s.heap.objs.size (.tup [a, b])) { s with heap := s.heap.push { cls := .type "tuple", data := .seq #[u1, u2] } } :=
    I.laid (t' := s.toks) (fun b u e => Heap.get?_push_of_some _ e) (Nat.le_refl _) ⟨(by decide : 2 ≤ sizeLine), _, pr, ⟨_, gT, rfl, _, rfl⟩⟩
  have sq : SqT X.K (upd H s.heap.objs.size (.tup [a, b])) s.heap.objs.size [a, b] := .inl (.inl upd_same)
  obtain ⟨its, rv, p, hz⟩ := I1.tuple sq
  refine wpAny_pyIter_tuple (show Heap.IsTuple _ s.heap.objs.size its.toArray from p) ?_
  have I3 := I1.kept (t' := s.toks) (h' := ((s.heap.push { cls := .type "tuple", data := .seq #[u1, u2] }).push { cls := .type "tuple_iterator", data := .fields #[.ref s.heap.objs.size, .int 0 0] }).push (boxO [] 0)) fun b o e => Heap.get?_push_of_some _ (Heap.get?_push_of_some _ e)
  have z1 : ((s.heap.push { cls := .type "tuple", data := .seq #[u1, u2] }).push { cls := .type "tuple_iterator", data := .fields #[.ref s.heap.objs.size, .int 0 0] }).objs.size = (s.heap.push { cls := .type "tuple", data := .seq #[u1, u2] }).objs.size + 1 := Heap.size_push ..
  have gb := Heap.get?_push_size ((s.heap.push { cls := .type "tuple", data := .seq #[u1, u2] }).push { cls := .type "tuple_iterator", data := .fields #[.ref s.heap.objs.size, .int 0 0] }) (o := boxO [] 0) rfl
  rw [z1] at gb
  show codeAny (model X.prog X.w) X.A (.builtin "min.loop" ⟨[.ref (s.heap.push { cls := .type "tuple", data := .seq #[u1, u2] }).objs.size, .ref q, .ref ((s.heap.push { cls := .type "tuple", data := .seq #[u1, u2] }).push { cls := .type "tuple_iterator", data := .fields #[.ref s.heap.objs.size, .int 0 0] }).objs.size], []⟩) _ _
  rw [z1]
  refine min_all (xn := "x") (xp := ⟨0, 0, 0, 0⟩) (turn_tuple _ _) hc C (fun z => ?_) hu Wk (fun x k H' s' vb w0 I' r' => ⟨x, H', I', r', hQ x k H' w0⟩) (by decide) I3 ⟨_, Heap.get?_push_of_some _ (Heap.get?_push_size _ rfl), rfl, rfl⟩ (fp_two I1) gb ⟨[a, b], a, sq, rfl⟩ fun y H' hy => ?_
  · simp only [List.mem_cons, List.not_mem_nil, or_false] at z
    exact absurd z (Nat.succ_ne_self _)
  · obtain ⟨rfl, hy2⟩ := hy
    have e := hy2 [a, b] sq
    cases e
    exact h0
theorem cr_min1 (hc : X.calm = true) (C : Runs X q sp) (hu : X.A.units + 1 + 64 < cLine) : CallRK X (.builtin "min") [Str.ofString "key"] (rK1 X q sp ltP) := by
  intro pins s σ H xs zs us ws Q I rx rz h
  obtain ⟨rfl, a, ys, W, rfl, sq, hn, Wk, h0, hQ⟩ := h
  obtain ⟨u1, rfl, r1⟩ := vals1 rx
  obtain ⟨w1, rfl, rw1⟩ := vals1 rz
  cases rw1
  cases r1
  refine call_minK1 ?_
  obtain ⟨its, rv, p, hz⟩ := I.list sq
  refine wpAny_pyIter_list p.isList ?_
  have I3 := I.kept (t' := s.toks) (h' := (s.heap.push { cls := .type "list_iterator", data := .fields #[.ref a, .int 0 0] }).push (boxO [] 0)) fun b o e => Heap.get?_push_of_some _ (Heap.get?_push_of_some _ e)
  have z1 : (s.heap.push { cls := .type "list_iterator", data := .fields #[.ref a, .int 0 0] }).objs.size = s.heap.objs.size + 1 := Heap.size_push ..
  have gb := Heap.get?_push_size (s.heap.push { cls := .type "list_iterator", data := .fields #[.ref a, .int 0 0] }) (o := boxO [] 0) rfl
  rw [z1] at gb
  show codeAny (model X.prog X.w) X.A (.builtin "min.loop" ⟨[.ref s.heap.objs.size, .ref q, .ref (s.heap.push { cls := .type "list_iterator", data := .fields #[.ref a, .int 0 0] }).objs.size], []⟩) _ _
  rw [z1]
  refine min_all (xn := "x") (xp := ⟨0, 0, 0, 0⟩) (turn_list _ _) hc C (fun z => ?_) hu Wk (fun x k H' s' vb w0 I' r' => ⟨x, H', I', r', hQ x k H' w0⟩) hn I3 ⟨_, Heap.get?_push_of_some _ (Heap.get?_push_size _ rfl), rfl, rfl⟩ (fp_two I) gb ⟨ys, _, sq, List.getElem?_eq_getElem hn⟩ fun y H' hy => ?_
  · simp only [List.mem_cons, List.not_mem_nil, or_false] at z
    exact absurd z (Nat.succ_ne_self _)
  · obtain ⟨rfl, hy2⟩ := hy
    exact h0 y (hy2 ys sq)
end

section
variable {X : Cx} {W : WX} {q : Addr} {fd : FuncData} {k : Nat} {F : FD} {x fn : Str} {p p2 kp pos : Pos} {e1 e2 : Expr} {da : DenA}
theorem e_maxK2 (Fk : FnZ X.prog X.w X.K X.mg X.base k q fd [x] F) (hr : RoomZ (k + 1) X.A) (hb : Binds X.K fd [x] []) (hm : X.mg fn = some (.ref q)) (hx : X.mg "max" = none) (hc : X.calm = true) (ha : AA X W [e1, e2] da) (hg : Gl X fn := by rfl) (hgm : Gl X "max" := by rfl) (hd : (fn == ("__debug__" : Str)) = false := by decide)
    (he : backTo pos (starEach [e1, e2] X.env) = (false, eval e1 X.env) :: backTo pos (starEach [e2] X.env) := by rfl) (hpl : (backTo pos (starEach [e1, e2] X.env)).any (·.1) = false := by rfl)
    (hall : (backToKw pos (keywordEach [⟨some "key", .Name fn p2, kp⟩] X.env)).all (·.1.isSome) = true := by rfl) (hnone : (backToKw pos (keywordEach [⟨some "key", .Name fn p2, kp⟩] X.env)).any (·.1.isNone) = false := by rfl) (hks : (backToKw pos (keywordEach [⟨some "key", .Name fn p2, kp⟩] X.env)).filterMap (·.1) = [Str.ofString "key"] := by rfl) :
    EE X W (.Call (.Name "max" p) [e1, e2] [⟨some "key", .Name fn p2, kp⟩] pos) (dKeyT F gtP da) :=
  PE.imp (pe_callBK (cr_max2 hc (runs_of Fk hr hb) (by have := hr.r.un; omega)) hgm hx boot_max ha (pk_cons (pe_glob hg hm (show RelV (.ref q) (.ref q) from rfl) hd) pk_nil) (by decide) (by decide) he hpl hall hnone hks) fun σ H Q h => by
    obtain ⟨ι, env, S, s, er, p⟩ := h
    refine ⟨ι, env, S, s, er, (Post.bind (Rel' := Rps X.K) p).mono ?_⟩
    rintro xs H1 ⟨ι1, ds, S1, e1', s1, r1, p1⟩
    show rK2 X q (spOf X.K X.mg 1 F) gtP xs [.ref q] H1 Q
    split at p1
    · rename_i hl
      obtain ⟨d1, d2, rfl⟩ : ∃ d1 d2, ds = [d1, d2] := by
        match ds, hl with
        | [d1, d2], _ => exact ⟨d1, d2, rfl⟩
      obtain ⟨v, w, rfl, rv, rw1⟩ := rps2 r1
      refine ⟨rfl, v, w, rfl, fun T hT => ⟨KInv X W σ Q F gtP S1 (.tup [d1, d2]) (.ref T) [d1, d2], keyW (ds := [d1, d2]) src_tup, ?_, fun x k H' w0 => key_last w0⟩⟩
      have rT : Rp X.K (upd H1 T (.tup [v, w])) ι1 (.ref T) (.tup [d1, d2]) := .tup (s1.out hT) upd_same (r1.ext (Ext.new hT))
      exact key_first rfl (s1.new hT) rT (rv.ext (Ext.new hT)) (p1.ext (Ext.new hT) (s1.new hT))
    · exact p1.elim
theorem e_maxK1 (Fk : FnZ X.prog X.w X.K X.mg X.base k q fd [x] F) (hr : RoomZ (k + 1) X.A) (hb : Binds X.K fd [x] []) (hm : X.mg fn = some (.ref q)) (hx : X.mg "max" = none) (hc : X.calm = true) (ha : AA X W [e1] da) (hg : Gl X fn := by rfl) (hgm : Gl X "max" := by rfl) (hd : (fn == ("__debug__" : Str)) = false := by decide)
    (he : backTo pos (starEach [e1] X.env) = (false, eval e1 X.env) :: backTo pos (starEach [] X.env) := by rfl) (hpl : (backTo pos (starEach [e1] X.env)).any (·.1) = false := by rfl)
    (hall : (backToKw pos (keywordEach [⟨some "key", .Name fn p2, kp⟩] X.env)).all (·.1.isSome) = true := by rfl) (hnone : (backToKw pos (keywordEach [⟨some "key", .Name fn p2, kp⟩] X.env)).any (·.1.isNone) = false := by rfl) (hks : (backToKw pos (keywordEach [⟨some "key", .Name fn p2, kp⟩] X.env)).filterMap (·.1) = [Str.ofString "key"] := by rfl) :
    EE X W (.Call (.Name "max" p) [e1] [⟨some "key", .Name fn p2, kp⟩] pos) (dKeyL F gtP da) :=
  PE.imp (pe_callBK (cr_max1 hc (runs_of Fk hr hb) (by have := hr.r.un; omega)) hgm hx boot_max ha (pk_cons (pe_glob hg hm (show RelV (.ref q) (.ref q) from rfl) hd) pk_nil) (by decide) (by decide) he hpl hall hnone hks) fun σ H Q h => by
    obtain ⟨ι, env, S, s, er, p⟩ := h
    refine ⟨ι, env, S, s, er, (Post.bind (Rel' := Rps X.K) p).mono ?_⟩
    rintro xs H1 ⟨ι1, ds, S1, e1', s1, r1, p1⟩
    show rK1 X q (spOf X.K X.mg 1 F) gtP xs [.ref q] H1 Q
    split at p1
    · rename_i d
      cases r1 with
      | cons rv rn =>
      cases rn
      split at p1
      · rename_i ys e3
        obtain ⟨a, vs, rfl, sq, rs⟩ := lst_inv s1 rv e3
        cases ys with
        | nil => exact p1.elim
        | cons y ys =>
          have hl := rs.length
          refine ⟨rfl, a, vs, KInv X W σ Q F gtP S1 d (.ref a) (y :: ys), rfl, sq, by rw [hl]; simp, by rw [hl]; exact keyW (src_lst e3), fun y' hy => ?_, fun x k H' w0 => key_last (by rw [hl] at w0; exact w0)⟩
          cases rs with
          | cons r0 rs =>
          rw [List.getElem?_cons_zero] at hy
          cases hy
          exact key_first rfl s1 rv r0 p1
      · exact p1.elim
    · exact p1.elim
end

section
variable {X : Cx} {W : WX} {q : Addr} {fd : FuncData} {k : Nat} {F : FD} {x fn : Str} {p p2 kp pos : Pos} {e1 e2 : Expr} {da : DenA}
theorem e_minK2 (Fk : FnZ X.prog X.w X.K X.mg X.base k q fd [x] F) (hr : RoomZ (k + 1) X.A) (hb : Binds X.K fd [x] []) (hm : X.mg fn = some (.ref q)) (hx : X.mg "min" = none) (hc : X.calm = true) (ha : AA X W [e1, e2] da) (hg : Gl X fn := by rfl) (hgm : Gl X "min" := by rfl) (hd : (fn == ("__debug__" : Str)) = false := by decide)
    (he : backTo pos (starEach [e1, e2] X.env) = (false, eval e1 X.env) :: backTo pos (starEach [e2] X.env) := by rfl) (hpl : (backTo pos (starEach [e1, e2] X.env)).any (·.1) = false := by rfl)
    (hall : (backToKw pos (keywordEach [⟨some "key", .Name fn p2, kp⟩] X.env)).all (·.1.isSome) = true := by rfl) (hnone : (backToKw pos (keywordEach [⟨some "key", .Name fn p2, kp⟩] X.env)).any (·.1.isNone) = false := by rfl) (hks : (backToKw pos (keywordEach [⟨some "key", .Name fn p2, kp⟩] X.env)).filterMap (·.1) = [Str.ofString "key"] := by rfl) :
    EE X W (.Call (.Name "min" p) [e1, e2] [⟨some "key", .Name fn p2, kp⟩] pos) (dKeyT F ltP da) :=
  PE.imp (pe_callBK (cr_min2 hc (runs_of Fk hr hb) (by have := hr.r.un; omega)) hgm hx boot_min ha (pk_cons (pe_glob hg hm (show RelV (.ref q) (.ref q) from rfl) hd) pk_nil) (by decide) (by decide) he hpl hall hnone hks) fun σ H Q h => by
    obtain ⟨ι, env, S, s, er, p⟩ := h
    refine ⟨ι, env, S, s, er, (Post.bind (Rel' := Rps X.K) p).mono ?_⟩
    rintro xs H1 ⟨ι1, ds, S1, e1', s1, r1, p1⟩
    show rK2 X q (spOf X.K X.mg 1 F) ltP xs [.ref q] H1 Q
    split at p1
    · rename_i hl
      obtain ⟨d1, d2, rfl⟩ : ∃ d1 d2, ds = [d1, d2] := by
        match ds, hl with
        | [d1, d2], _ => exact ⟨d1, d2, rfl⟩
      obtain ⟨v, w, rfl, rv, rw1⟩ := rps2 r1
      refine ⟨rfl, v, w, rfl, fun T hT => ⟨KInv X W σ Q F ltP S1 (.tup [d1, d2]) (.ref T) [d1, d2], keyW (ds := [d1, d2]) src_tup, ?_, fun x k H' w0 => key_last w0⟩⟩
      have rT : Rp X.K (upd H1 T (.tup [v, w])) ι1 (.ref T) (.tup [d1, d2]) := .tup (s1.out hT) upd_same (r1.ext (Ext.new hT))
      exact key_first rfl (s1.new hT) rT (rv.ext (Ext.new hT)) (p1.ext (Ext.new hT) (s1.new hT))
    · exact p1.elim
theorem e_minK1 (Fk : FnZ X.prog X.w X.K X.mg X.base k q fd [x] F) (hr : RoomZ (k + 1) X.A) (hb : Binds X.K fd [x] []) (hm : X.mg fn = some (.ref q)) (hx : X.mg "min" = none) (hc : X.calm = true) (ha : AA X W [e1] da) (hg : Gl X fn := by rfl) (hgm : Gl X "min" := by rfl) (hd : (fn == ("__debug__" : Str)) = false := by decide)
    (he : backTo pos (starEach [e1] X.env) = (false, eval e1 X.env) :: backTo pos (starEach [] X.env) := by rfl) (hpl : (backTo pos (starEach [e1] X.env)).any (·.1) = false := by rfl)
    (hall : (backToKw pos (keywordEach [⟨some "key", .Name fn p2, kp⟩] X.env)).all (·.1.isSome) = true := by rfl) (hnone : (backToKw pos (keywordEach [⟨some "key", .Name fn p2, kp⟩] X.env)).any (·.1.isNone) = false := by rfl) (hks : (backToKw pos (keywordEach [⟨some "key", .Name fn p2, kp⟩] X.env)).filterMap (·.1) = [Str.ofString "key"] := by rfl) :
    EE X W (.Call (.Name "min" p) [e1] [⟨some "key", .Name fn p2, kp⟩] pos) (dKeyL F ltP da) :=
  PE.imp (pe_callBK (cr_min1 hc (runs_of Fk hr hb) (by have := hr.r.un; omega)) hgm hx boot_min ha (pk_cons (pe_glob hg hm (show RelV (.ref q) (.ref q) from rfl) hd) pk_nil) (by decide) (by decide) he hpl hall hnone hks) fun σ H Q h => by
    obtain ⟨ι, env, S, s, er, p⟩ := h
    refine ⟨ι, env, S, s, er, (Post.bind (Rel' := Rps X.K) p).mono ?_⟩
    rintro xs H1 ⟨ι1, ds, S1, e1', s1, r1, p1⟩
    show rK1 X q (spOf X.K X.mg 1 F) ltP xs [.ref q] H1 Q
    split at p1
    · rename_i d
      cases r1 with
      | cons rv rn =>
      cases rn
      split at p1
      · rename_i ys e3
        obtain ⟨a, vs, rfl, sq, rs⟩ := lst_inv s1 rv e3
        cases ys with
        | nil => exact p1.elim
        | cons y ys =>
          have hl := rs.length
          refine ⟨rfl, a, vs, KInv X W σ Q F ltP S1 d (.ref a) (y :: ys), rfl, sq, by rw [hl]; simp, by rw [hl]; exact keyW (src_lst e3), fun y' hy => ?_, fun x k H' w0 => key_last (by rw [hl] at w0; exact w0)⟩
          cases rs with
          | cons r0 rs =>
          rw [List.getElem?_cons_zero] at hy
          cases hy
          exact key_first rfl s1 rv r0 p1
      · exact p1.elim
    · exact p1.elim
end
end
end Z
end

section
set_option Elab.async false
set_option linter.all false
set_option maxRecDepth 100000
set_option maxHeartbeats 1000000
namespace Z
noncomputable section
open PySem PySem.Spec PyProof.Rows L2
/-! ### max and min of a list of alike data -/
def MxOk (ps : List PyData) : Prop := 1 ≤ ps.length ∧ PySem.W.AlikeAll ps ∧ PyData.depthAll ps ≤ 64
instance (ps : List PyData) : Decidable (MxOk ps) := Classical.propDecidable _
def bestAt (f : PyData → PyData → Bool) (ps : List PyData) : Nat := argBest (fun i j => f (ps.getD i .none) (ps.getD j .none)) (ps.length - 1)
def pysS (S : Sto) : List D → Option (List PyData)
  | [] => some []
  | d :: ds => (pyS S d).bind fun p => (pysS S ds).map fun ps => p :: ps
def fBestD (f : PyData → PyData → Bool) (xs : List D) (S : Sto) : R D := match xs with
  | [x] => match lstOf S x with
    | some ys => match pysS S ys with
      | some ps => if MxOk ps then (match ys[bestAt f ps]? with
        | some y => .ok y S
        | none => .bad) else .bad
      | none => .bad
    | none => .bad
  | _ => .bad
def rBestD (K : PySem.W.Frag) (f : PyData → PyData → Bool) : List V → Hp → VK → Prop := fun vs H Q => ∃ a ys ps, vs = [.ref a] ∧ SqL K H a ys ∧ DpAll K H ys ps ∧ MxOk ps ∧ ∀ y, ys[bestAt f ps]? = some y → Q y H
section
variable {K : PySem.W.Frag} {X : Cx}
theorem dpsS_of {H : Hp} {ι : Em} {S : Sto} (s : Sr K H ι S) : ∀ {ds : List D} {vs : List V} {ps : List PyData}, Rps K H ι vs ds → pysS S ds = some ps → DpAll K H vs ps
  | [], _, _, r, e => by cases r; cases e; exact .nil
  | d :: ds, _, _, r, e => by
    cases r with
    | cons r rs =>
      rw [pysS] at e
      cases q : pyS S d with
      | none => rw [q] at e; cases e
      | some p =>
        rw [q] at e
        cases q2 : pysS S ds with
        | none => rw [q2] at e; cases e
        | some ps => rw [q2] at e; cases e; exact .cons (dpS_of s r q) (dpsS_of s rs q2)
theorem sBestD {f : PyData → PyData → Bool} : CbS K (rBestD K f) (fBestD f) := by
  intro mg W σ ι H S xs ds Q s r p
  unfold fBestD at p
  split at p
  · rename_i x
    cases r with
    | cons r0 rn =>
    cases rn
    split at p
    · rename_i ys e
      obtain ⟨a, vs, rfl, sq, rs⟩ := lst_inv s r0 e
      split at p
      · rename_i ps e2
        split at p
        · rename_i hm
          split at p
          · rename_i y e3
            refine ⟨a, vs, ps, rfl, sq, dpsS_of s rs e2, hm, fun v hv => ?_⟩
            obtain ⟨d, hd, rd⟩ := rs.getV hv
            rw [e3] at hd
            cases hd
            exact p.ret s rd
          · exact p.elim
        · exact p.elim
      · exact p.elim
    · exact p.elim
  · exact p.elim
theorem vals_getV {vs : List V} {us : List Value} {i : Nat} {u : Value} (r : Vals vs us) (e : us[i]? = some u) : ∃ v, vs[i]? = some v ∧ RelV v u := by
  have hi : i < vs.length := by rw [r.length]; exact (List.getElem?_eq_some_iff.mp e).1
  obtain ⟨u', e', r'⟩ := r.get (List.getElem?_eq_getElem hi)
  rw [e] at e'
  cases e'
  exact ⟨_, List.getElem?_eq_getElem hi, r'⟩
theorem cr_maxD (hc : X.calm = true) (hu : X.A.units + 1 + 64 < cLine) : CallR X (.builtin "max") (rBestD X.K gtP) := by
  intro pins s σ H xs us Q I r h
  obtain ⟨a, ys, ps, rfl, sq, dp, ⟨hn, al, hd⟩, q⟩ := h
  obtain ⟨u, rfl, r1⟩ := vals1 r
  cases r1
  obtain ⟨its, rv, p, hz⟩ := I.list sq
  obtain ⟨as, hr⟩ := Dp.readsAll I ps ys its dp rv
  have hl : its.toArray.size = ps.length := PySem.W.readsAll_len (vs := its.toArray) (by simpa using hr)
  refine PySem.call_max_walkH (PySem.W.iter_listW (A := X.A.in1) (I.ok.hd hc) p.isList fun s₂ e W st hfp hw hk => ?_)
  refine ⟨_, _, _, _, _, _, _, s.heap, _, rfl, W, st, hfp, by omega, hw, hk, PySem.W.cmpIn_gt (A := X.A.in1) (vs := its.toArray) (xs := ps) (as := as) (by simpa using hr) al (by show X.A.units + 1 + _ < _; omega), fun v s' hP m => ?_⟩
  obtain ⟨h', tk, rfl, hk'⟩ := PySem.W.moved_old e rfl m
  rw [hl] at hP
  obtain ⟨y, hy, ry⟩ := vals_getV (i := bestAt gtP ps) rv (by rw [← List.getElem?_toArray]; exact hP)
  exact ⟨y, H, I.kept hk', ry, q y hy⟩
theorem cr_minD (hc : X.calm = true) (hu : X.A.units + 1 + 64 < cLine) : CallR X (.builtin "min") (rBestD X.K ltP) := by
  intro pins s σ H xs us Q I r h
  obtain ⟨a, ys, ps, rfl, sq, dp, ⟨hn, al, hd⟩, q⟩ := h
  obtain ⟨u, rfl, r1⟩ := vals1 r
  cases r1
  obtain ⟨its, rv, p, hz⟩ := I.list sq
  obtain ⟨as, hr⟩ := Dp.readsAll I ps ys its dp rv
  have hl : its.toArray.size = ps.length := PySem.W.readsAll_len (vs := its.toArray) (by simpa using hr)
  refine PySem.call_min_walkH (PySem.W.iter_listW (A := X.A.in1) (I.ok.hd hc) p.isList fun s₂ e W st hfp hw hk => ?_)
  refine ⟨_, _, _, _, _, _, _, s.heap, _, rfl, W, st, hfp, by omega, hw, hk, PySem.W.cmpIn_lt (A := X.A.in1) (vs := its.toArray) (xs := ps) (as := as) (by simpa using hr) al (by show X.A.units + 1 + _ < _; omega), fun v s' hP m => ?_⟩
  obtain ⟨h', tk, rfl, hk'⟩ := PySem.W.moved_old e rfl m
  rw [hl] at hP
  obtain ⟨y, hy, ry⟩ := vals_getV (i := bestAt ltP ps) rv (by rw [← List.getElem?_toArray]; exact hP)
  exact ⟨y, H, I.kept hk', ry, q y hy⟩
end
/-- a tuple of the written part -/
theorem stT_of {K : PySem.W.Frag} {a : Addr} {o : Obj} {its : Array Value} {n m : Nat} {vs : List V} (l : K.lookup a = some o) (c : o.cls = .type "tuple") (d : o.data = .seq its n) (sz : its.size = m) (hm : m ≤ 64) (v : Vals vs its.toList) : StT K a vs :=
  ⟨o, its, n, l, c, d, by rw [sz]; exact Nat.le_trans hm (by decide), v⟩
theorem room65 {k : Nat} {A : Around} (r : RoomZ k A) : A.units + 1 + 64 < cLine := by have := r.r.un; omega
end
end Z
end

section
set_option Elab.async false
set_option linter.all false
set_option maxRecDepth 100000
set_option maxHeartbeats 1000000
namespace Z
noncomputable section
open PySem PySem.Spec PyProof.Rows L2
/-! ### f(e, .., k = v, ..), which may raise -/
def dCallX (n m : Nat) (F : FD) (g : List D → List D → List D) (a b : DenA) : Den := fun env S => (a env S).bind fun ds S1 => (b env S1).bind fun es S2 => if ds.length = n ∧ es.length = m then F (g ds es) S2 else .bad
section
variable {X : Cx} {W : WX} {k n m : Nat} {f : Addr} {fd : FuncData} {ps ks : List Str} {F : FD} {x : Str} {p pos : Pos} {e : Expr} {es : List Expr} {kws : List Keyword} {da db : DenA} {g : List Value → List Value → List Value} {gV : List V → List V → List V} {gD : List D → List D → List D}
theorem run_X {pins : List (Addr × Obj)} {σ : L2.St} {H : Hp} {s : Shared} {Q : VK} {us ws : List Value} {vs zs : List V} (Fk : FnZ X.prog X.w X.K X.mg X.base k f fd ps F) (hr : RoomZ k X.A) (hb : KBn X.K fd ps n ks g gV) (tk : L2N.Takes X W) (I : Inv X pins σ H s) (r : Vals vs us) (rz : Vals zs ws)
    (l1 : vs.length = n) (l2 : zs.length = ks.length) (h : spOf X.K X.mg ps.length F (gV vs zs) H Q (WE W σ)) : wpAny (model X.prog X.w) X.A (call (.ref f) us (ks.zip ws)) (EP X pins σ Q) X.xe s := by
  refine wpAny_call (codeAny_mono (Fk.run X.A X.stack s H ⟨us, ks.zip ws⟩ (g us ws) (gV vs zs) Q (WE W σ) hr I.env0 (hb.to s us ws I.kIn (r.length.symm.trans l1) (rz.length.symm.trans l2)) (hb.rel r rz) h) fun q s' hq => ?_)
  match q, hq with
  | .error e, hq => exact L2N.passAt tk σ pins H s e s' I hq
  | .ok (.ret u), hq => exact I.after hq
theorem e_callX (Fk : FnZ X.prog X.w X.K X.mg X.base k f fd ps F) (hr : RoomZ k X.A) (hm : X.mg x = some (.ref f)) (hk : PySem.W.keepIn X.K (.ref f) = true) (hb : KBn X.K fd ps n ks g gV) (hl : ks.length = m)
    (hgl : ∀ vs zs : List V, vs.length = n → zs.length = m → (gV vs zs).length = ps.length)
    (hgd : ∀ {H : Hp} {ι : Em} {vs zs : List V} {ds es : List D}, Rps X.K H ι vs ds → Rps X.K H ι zs es → ds.length = n → es.length = m → Rps X.K H ι (gV vs zs) (gD ds es))
    (tk : L2N.Takes X W) (ha : AA X W (e :: es) da) (hkw : KK X W kws db) (hg : Gl X x := by rfl)
    (hall : (backToKw pos (keywordEach kws X.env)).all (·.1.isSome) = true := by rfl) (hks : (backToKw pos (keywordEach kws X.env)).filterMap (·.1) = ks := by rfl) (hdb : (x == ("__debug__" : Str)) = false := by decide) (he : starEach (e :: es) X.env = (false, eval e X.env) :: starEach es X.env := by rfl)
    (hpl : ((backTo pos (starEach (e :: es) X.env)).any (·.1) || (backToKw pos (keywordEach kws X.env)).any (·.1.isNone)) = false := by rfl) :
    EE X W (.Call (.Name x p) (e :: es) kws pos) (dCallX n m F gD da db) := by
  subst hl
  refine ⟨fun pins s σ H Q I h => wpAny_Call_Name_kw (ld_glob I hg hm ?_ hdb)⟩
  obtain ⟨ι, env, S, s0, er, q⟩ := h
  refine PySem.W.callWith_KW (h₀ := X.base) I.ok.mod.kin hk hall (thn (ha.run pos pins s σ H (fun vs H1 => rdA X.K X.mg W db σ H1 fun zs H2 => vs.length = n ∧ zs.length = ks.length ∧ spOf X.K X.mg ps.length F (gV vs zs) H2 Q (WE W σ)) I ⟨ι, env, S, s0, er, ?_⟩) fun us s1 h1 => ?_) hpl he
  · refine (Post.bind (Rel' := Rps X.K) q).mono ?_
    rintro xs H1 ⟨ι1, ds, S1, e1, s1, r1, p1⟩
    refine ⟨ι1, env, S1, s1, er.ext e1, (Post.bind (Rel' := Rps X.K) p1).mono ?_⟩
    rintro ys H2 ⟨ι2, es', S2, e2, s2, r2, p2⟩
    split at p2
    · rename_i hn
      have l1 : xs.length = n := by rw [r1.length]; exact hn.1
      have l2 : ys.length = ks.length := by rw [r2.length]; exact hn.2
      exact ⟨l1, l2, hgl xs ys l1 l2, ι2, gD ds es', S2, s2, hgd (r1.ext e2) r2 hn.1 hn.2, Post.wish (E := WE W σ) p2 fun _ _ _ h => h⟩
    · exact p2.elim
  · obtain ⟨vs, H1, I1, r, q1⟩ := h1
    refine thn (hkw.run pos pins s1 σ H1 _ I1 q1) fun ws s2 h2 => ?_
    obtain ⟨zs, H2, I2, rz, l1, l2, hq⟩ := h2
    refine ⟨I2.kIn, ?_⟩
    rw [hks]
    exact run_X Fk hr hb tk I2 r rz l1 l2 hq
end
end
end Z
end

section
set_option Elab.async false
set_option linter.all false
set_option maxRecDepth 100000
set_option maxHeartbeats 3200000
namespace Z
noncomputable section
open PySem PySem.Spec PyProof.Rows L2
/-! ### sorted(set(list of numbers)) -/
abbrev freshSet (w : World) : Obj := { cls := .type "set", dict := none, data := .set #[] 0 (.fresh 0 0 (!w.params.followText "set-order")) }
section
variable {P : Program} {w : World} {A : Around} {E : Value → Shared → Prop} {s : Shared}
theorem call_set_lstI {l : Addr} {items : Array Value} (ns : List Int) {Q : Value → Shared → Prop} (hh : A.handled = none) (hl : s.heap.IsList l items) (hit : IntsAre items.toList ns) (hb : ns.length + 1 < scanBound)
    (h : ∀ (h' : Heap) (tk c : Nat), SetR w h' s.heap.objs.size (fun j => decide (j ∈ ns)) c → c ≤ ns.length → (∀ b o, s.heap.get? b = some o → h'.get? b = some o) → Q (.ref s.heap.objs.size) { s with heap := h', toks := tk }) :
    wpAny (model P w) A (call (.type "set") [.ref l]) Q E s := by
  have hisz : items.size = ns.length := by have q := IntsAre.length hit; rwa [Array.length_toList] at q
  obtain ⟨c, tl, hmro⟩ := F.called_set.mro; have hmade := F.called_set.made; have hsub := F.called_set.sub
  refine wpAny_call (codeAny_of_tree ?_); show wpAny _ _ (callAny (.type "set") _) _ _ _
  refine wpAny_pure ⟨Code.quiet_builtin _ (by decide +kernel), codeAny_builtin F.entry_type_call ?_⟩; rw [Around.under_plain (weight_type_call_type "set" [.ref l] []) rfl]
  have h1 := F.called_set.notType; have h2 := F.called_set.canCreate; have hct := F.typeCall_set_1 (.ref l)
  repeat (any_goals (first | assumption | wp_step))

  refine codeAny_mono (code_set_led1 (.ref l) (E := E) (Q₁ := fun obj s₁ => obj = .ref s.heap.objs.size ∧ s₁ = { s with heap := s.heap.push (freshSet w) }) ⟨rfl, rfl⟩) fun r s₁ hr => ?_
  match r, hr with
  | .error e, hr => exact hr
  | .ok .next, hr => exact hr.elim
  | .ok .brk, hr => exact hr.elim
  | .ok .cont, hr => exact hr.elim
  | .ok (.ret obj), hr =>
    obtain ⟨rfl, rfl⟩ := hr
    have hS : (s.heap.push (freshSet w)).get? s.heap.objs.size = some (freshSet w) := Heap.get?_push_size _ rfl
    have hT : Shared.TypeIs { s with heap := s.heap.push (freshSet w) } (.ref s.heap.objs.size) "set" := ⟨_, hS, rfl⟩
    have hli := F.called_set.init.lookup; have hbi := F.called_set.init.bind (.ref s.heap.objs.size)
    repeat (any_goals (first | assumption | wp_step))

    refine codeAny_mono (codeAny_call_builtin (R := wants (fun r s₂ => r = .none ∧ ∃ h' tk c, s₂ = { s with heap := h', toks := tk } ∧ SetR w h' s.heap.objs.size (fun j => decide (j ∈ ns)) c ∧ c ≤ ns.length ∧ ∀ b o, s.heap.get? b = some o → h'.get? b = some o) E) F.called_set.init.plain F.entry_set_init (check_set_init_1 hT ?_)) fun r₂ s₂ hr₂ => ?_
    · obtain ⟨ol, hol, hcl, nl, hdl⟩ := hl; obtain ⟨ocls, odict, odata, oslots⟩ := ol
      simp only at hcl hdl; subst hcl; subst hdl
      have hol' : (s.heap.push (freshSet w)).get? l = some { cls := .type "list", dict := odict, data := .seq items nl, slots := oslots } := Heap.get?_push_of_some _ hol
      have hsls := F.sub_list_set; have hslf := F.sub_list_frozenset
      have hne : (Value.type "list" == Value.type "dict") = false := by decide
      have hl1 : (s.heap.push (freshSet w)).IsList l items := ⟨_, hol', rfl, nl, rfl⟩
      unfold Builtin.«set.__init__» noKeywords Builtin.Frozenset.updateFrom
      generalize hPI : pyIter = PI; wp_walk; subst hPI

      refine wpAny_pyIter_list hl1 (wpAny_bind (wpAny_runValue ?_))
      have hlS : l < s.heap.objs.size := Heap.lt_size hol
      have hh3 : A.in1.in1.in1.handled = none := by simp [hh]
      have hz : (s.heap.push (freshSet w)).objs.size = s.heap.objs.size + 1 := Heap.size_push ..
      have hneI : l ≠ (s.heap.push (freshSet w)).objs.size := by rw [hz]; exact Nat.ne_of_lt (Nat.lt_succ_of_lt hlS)
      have hSf : s.heap.objs.size ∉ [(s.heap.push (freshSet w)).objs.size, l] := by
        rw [hz]; simp only [List.mem_cons, List.not_mem_nil, or_false, not_or]; exact ⟨Nat.ne_of_lt (Nat.lt_succ_self _), Nat.ne_of_gt hlS⟩
      have hval : ∀ (i : Nat) (v : Value), items[i]? = some v → ∃ k t, ns[i]? = some k ∧ v = .int k t := fun i v hv => by
        have hi : i < ns.length := by rw [← hisz]; exact (Array.getElem?_eq_some_iff.mp hv).1
        obtain ⟨t, e⟩ := PyProof.Rows.IntsAre.int_at hit i v (by rw [Array.getElem?_toList]; exact hv)
        exact ⟨ns[i], t, List.getElem?_eq_getElem hi, by rw [e, List.getD_eq_getElem?_getD, List.getElem?_eq_getElem hi] <;> rfl⟩
      refine set_update_ints ((Walks.list hh3 _ l hneI items).toS) s.heap.objs.size hSf ns hisz hb hval (items.size - 0) 0 _ (by omega) (Nat.zero_le _) ⟨⟨_, Heap.get?_push_size _ rfl, rfl, rfl⟩, hl1.push _⟩ ⟨0, Nat.le_refl 0, setR_new_at (Heap.get?_push_of_some _ hS)⟩ fun s' c' hm hc' hS' => ?_
      obtain ⟨h', g2, d', tk', os'⟩ := s'
      obtain rfl : g2 = s.gens := hm.gens; obtain rfl : d' = s.drawn := hm.drawn; obtain rfl : os' = s.os := hm.os
      rw [hisz] at hc'
      show wpAny _ _ _ _ _ _; refine wpAny_pure ?_; show wpAny _ _ (ret Value.none) _ _ _
      refine wpAny_pure ⟨rfl, h', tk', c', rfl, hS', hc', fun b o e => hm.heap b o ?_ (Heap.get?_push_of_some _ (Heap.get?_push_of_some _ e))⟩
      have hb0 : b < s.heap.objs.size := Heap.lt_size e
      rw [hz]; simp only [List.mem_cons, List.not_mem_nil, or_false, not_or]; exact ⟨Nat.ne_of_lt hb0, Nat.ne_of_lt (Nat.lt_succ_of_lt hb0)⟩
    · match r₂, hr₂ with
      | .error e, hr₂ => exact hr₂
      | .ok .next, hr₂ => exact hr₂.elim
      | .ok .brk, hr₂ => exact hr₂.elim
      | .ok .cont, hr₂ => exact hr₂.elim
      | .ok (.ret r), hr₂ =>
        obtain ⟨rfl, h', tk, c', rfl, hS', hc', hk'⟩ := hr₂
        repeat (any_goals (first | assumption | wp_step))
        exact h _ _ _ hS' hc' hk'
end
section
variable {X : Cx} {W : WX} {e : Expr} {te : TE} {d : Den} {p p2 pos pos2 : Pos}
def rSetLi (K : PySem.W.Frag) (w : World) (vs : List V) (H : Hp) (Q : VK) : Prop := ∃ (l : Addr) (ns : List Int), vs = [V.ref l] ∧ SqL K H l (ns.map V.int) ∧ ns.length < 60 ∧ ∀ (q : Addr) (c : Nat), H q = none → c ≤ ns.length → Q (.ref q) (upd H q (SetO w q (fun j => decide (j ∈ ns)) c))
theorem cr_setLi (hc : X.calm = true) : CallR X (.type "set") (rSetLi X.K X.w) := by
  rintro pins s σ H xs us Q I r ⟨l, ns, rfl, sq, hl, q⟩
  obtain ⟨u, rfl, ru⟩ := r.one
  cases ru
  obtain ⟨its, rv, isL, _⟩ := I.list sq
  refine call_set_lstI ns (I.ok.hd hc) isL.isList (ints_of_vals rv) (by unfold scanBound; omega) fun h' tk c R hcn k => ?_
  exact ⟨.ref s.heap.objs.size, _, I.laid (t' := tk) k (Nat.le_refl _) (setO_new R), rfl, q _ c (I.hok.fresh (Nat.le_refl _)) hcn⟩
def dSoSetL (d : Den) : Den := fun env S => (d env S).bind fun x S1 => match lstOf S1 x with
  | some xs => match intsD xs with
    | some ns => if ns.length < 60 then .ok (.lst ((sset ns).map D.int)) S1 else .bad
    | none => .bad
  | none => .bad
theorem e_soSetL (hc : X.calm = true) (g1 : Gl X "sorted") (m1 : X.mg "sorted" = none) (g2 : Gl X "set") (m2 : X.mg "set" = none) (h : EE X W e d)
    (s1 : starEach [e] X.env = [(false, eval e X.env)] := by rfl) (s2 : starEach [.Call (.Name "set" p2) [e] [] pos2] X.env = [(false, eval (.Call (.Name "set" p2) [e] [] pos2) X.env)] := by rfl) :
    EE X W (.Call (.Name "sorted" p) [.Call (.Name "set" p2) [e] [] pos2] [] pos) (dSoSetL d) := by
  have c1 := pe_callTy (x := "set") (p := p2) (pos := pos2) (cr_setLi hc) g2 m2 boot_set (pa_cons h pa_nil s1) (by decide) (by decide) s1 rfl
  have c2 := pe_callB (x := "sorted") (p := p) (pos := pos) (cr_sortedSet hc) g1 m1 boot_sorted (pa_cons c1 pa_nil s2) (by decide) (by decide) s2 rfl
  refine PE.imp c2 fun σ H Q h => ?_
  obtain ⟨ι, env, S, s, er, p⟩ := h
  refine ⟨ι, env, S, s, er, (Post.bind (Rel' := Rp X.K) p).mono ?_⟩
  rintro x H1 ⟨ι1, dx, S1, e1, s1, r1, p1⟩
  split at p1
  · rename_i xs el
    split at p1
    · rename_i ns en
      split at p1
      · rename_i hl
        obtain ⟨b, vs, rfl, sq, rs⟩ := lst_inv s1 r1 el
        have ev := ints_rps rs en
        subst ev
        refine ⟨b, ns, rfl, sq, hl, fun q c hq hcn => ⟨q, _, c, rfl, upd_same, by omega, fun ms t pw mem hlen ht => ?_⟩⟩
        have em : ms = sset ns := pw_uniq pw sset_pw fun j => by rw [mem, sset_mem, decide_eq_true_eq]
        subst em
        have E1 : Ext ι1 H1 (ι1.ban q) (upd H1 q (SetO X.w q (fun j => decide (j ∈ ns)) c)) := Ext.banned hq
        have S1' := s1.banned (o := SetO X.w q (fun j => decide (j ∈ ns)) c) hq
        exact p1 _ _ _ (E1.tr S1' (Ext.new ht)) (S1'.new ht) (.lst (S1'.out ht) upd_same (int_rps _))
      · exact p1.elim
    · exact p1.elim
  · exact p1.elim
end
end
end Z
end

section
set_option Elab.async false
set_option linter.all false
set_option maxRecDepth 100000
set_option maxHeartbeats 1000000
namespace Z
noncomputable section
open PySem PySem.Spec PyProof.Rows L2
/-! ### x in a list of data of any depth -/
def fInD (neg : Bool) (x y : D) (S : Sto) : R D := match pyS S x, pyS S y with
  | some d, some (.list ds) => if SeqAt.shaped d = true ∧ SeqAt.shaped (.list ds) = true then .ok (.bl (if neg then !(ds.any fun z => PyData.eqv z d) else ds.any fun z => PyData.eqv z d)) S else .bad
  | _, _ => .bad
section
variable {K : PySem.W.Frag}
theorem sInD : OpS K (rInD K) (fInD false) := by
  intro mg W σ ι H S x y dx dy Q s rx ry p
  unfold fInD at p
  split at p
  · rename_i d ds h1 h2
    split at p
    · rename_i hs
      exact ⟨d, ds, dpS_of s rx h1, dpS_of s ry h2, hs.1, hs.2, p.ret s (.bl _)⟩
    · exact p.elim
  · exact p.elim
theorem sNotInD : OpS K (rNotInD K) (fInD true) := by
  intro mg W σ ι H S x y dx dy Q s rx ry p
  unfold fInD at p
  split at p
  · rename_i d ds h1 h2
    split at p
    · rename_i hs
      exact ⟨d, ds, dpS_of s rx h1, dpS_of s ry h2, hs.1, hs.2, p.ret s (.bl _)⟩
    · exact p.elim
  · exact p.elim
theorem room66 {k : Nat} {A : Around} (r : RoomZ k A) : A.units + 65 < cLine := by have := r.r.un; omega
end
end
end Z
end

section
set_option Elab.async false
set_option linter.all false
set_option maxRecDepth 100000
set_option maxHeartbeats 1000000
/-! any, all of a generator expression whose element is any expression: the frame of its own, the loop, the consumer -/
namespace Z
open PySem PySem.Spec PyProof.Rows L2 GenW

theorem over_gen {A : Around} {elt tg iter : Expr} {ifs : List Expr} {scope : Scope} {pos : Pos} {it acc : Value} {env : PySem.Env} :
    A.over (.compLoop (.GeneratorExp elt [⟨tg, iter, ifs, 0⟩] scope pos) 0 it acc env) [] = A.deeper env := by
  first
    | rfl
    | (obtain ⟨hd, d, fr, gs, u⟩ := A; simp [Around.over, Around.deeper, marksOver, frameCount, unitsOf, envsOf, guardsOf, pushEnvs, pushGuards, Code.envs, Code.env?, Code.isFrame, Code.guards, Code.isGuard, Code.weight, Code.frames, Code.isCreation, Code.isCaller, Code.cUnits])
theorem over_genS {A : Around} {elt tg iter : Expr} {ifs : List Expr} {scope : Scope} {pos : Pos} {it acc : Value} {env : PySem.Env} :
    A.over (.compStart (.GeneratorExp elt [⟨tg, iter, ifs, 0⟩] scope pos) 0 it acc env) [] = A.deeper env := by
  first
    | rfl
    | (obtain ⟨hd, d, fr, gs, u⟩ := A; simp [Around.over, Around.deeper, marksOver, frameCount, unitsOf, envsOf, guardsOf, pushEnvs, pushGuards, Code.envs, Code.env?, Code.isFrame, Code.guards, Code.isGuard, Code.weight, Code.frames, Code.isCreation, Code.isCaller, Code.cUnits])

theorem Inv.gens {X : Cx} {pins : List (Addr × Obj)} {σ : L2.St} {H : Hp} {s s' : Shared} (I : Inv X pins σ H s) (ho : s'.os = s.os) (hh : s'.heap = s.heap) (hg : AllBare s'.gens) : Inv X pins σ H s' :=
  ⟨I.ok, ho.trans I.os, hg, by rw [hh]; exact I.base, by rw [hh]; exact I.loc, by rw [hh]; exact I.cell, I.free, I.freeC, by rw [hh]; exact I.pin, by rw [hh]; exact I.hok, I.len⟩

/-- the context of a generator expression's frame: made at s, its iterator's objects at fp; it runs below the consumer and the generator's own entry -/
abbrev genX (X : Cx) (s : Shared) (H : Hp) (cenv : PySem.Env) (fp : List Addr) : Cx :=
  { X with A := X.A.in1.in1.deeper cenv, s_0 := s, H_0 := H, env := cenv, outer := X.stack, stack := cenv :: X.stack, ex := fp, fn := fun _ => false, calm := true, pn := [], xe := fun _ _ => False }

/-- asleep, or about to begin turn i -/
def GeI (Y : Cx) (a : Addr) (gob : Obj) (fp : List Addr) (tn : Nat → Heap → Prop) (τ : L2.St) (W : Nat → Nat → Hp → Prop) (i m : Nat) (s : Shared) : Prop :=
  ∃ H', Inv Y [(a, gob)] τ H' s ∧ tn i s.heap ∧ (∀ b ∈ fp, H' b = none) ∧ W i m H'
/-- the answer is known -/
def GeE (Y : Cx) (a : Addr) (gob : Obj) (QE : Bool → Hp → Prop) (z : Bool) (s : Shared) : Prop := ∃ σ' H', Inv Y [(a, gob)] σ' H' s ∧ QE z H'
theorem GeI.gens {Y : Cx} {a : Addr} {gob : Obj} {fp : List Addr} {tn : Nat → Heap → Prop} {τ : L2.St} {W : Nat → Nat → Hp → Prop} {i m : Nat} {s s' : Shared} (h : GeI Y a gob fp tn τ W i m s) (ho : s'.os = s.os) (hh : s'.heap = s.heap) (hg : AllBare s'.gens) :
    GeI Y a gob fp tn τ W i m s' := by
  obtain ⟨H', I, st, n, w⟩ := h
  exact ⟨H', Inv.gens I ho hh hg, by rw [hh]; exact st, n, w⟩
def GeP (Y : Cx) (a : Addr) (gob : Obj) (QE : Bool → Hp → Prop) (sb : Bool) : Nat → Shared → Shared → Prop := fun _ _ s => GeE Y a gob QE (!sb) s
def GeY (Y : Cx) (a : Addr) (gob : Obj) (fp : List Addr) (tn : Nat → Heap → Prop) (τ : L2.St) (W : Nat → Nat → Hp → Prop) (QE : Bool → Hp → Prop) (sb : Bool) : Protocol := fun n _ v s kap =>
  ∃ z, v = .bool z ∧ if z = sb then GeE Y a gob QE sb s else ∃ i m, m + 1 ≤ n ∧ GeI Y a gob fp tn τ W i m s ∧ ∀ s', GeI Y a gob fp tn τ W i m s' → kap (.send .none) s'
/-- one turn -/
def GeT (J : It) (g : TG) (tt : TT) (te : TE) (vs : List Nat) (τ : L2.St) (sb : Bool) (QE : Bool → Hp → Prop) (W : Nat → Nat → Hp → Prop) : Prop := ∀ i m H, W i m H →
  (J.stop i H ∧ QE (!sb) H) ∨ (J.go i H ∧ ∃ Nx : Hp → Prop, (∀ H', Nx H' → ∃ m', m' < m ∧ W (i + 1) m' H') ∧ ∀ x H', J.yld i H x H' → g x τ H' fun σ2 H2 => wipe σ2 vs = τ ∧ tt σ2 H2 fun b H3 =>
    if b = true then te σ2 H3 fun y H4 => ∃ z, y = .bl z ∧ (if z = sb then QE sb H4 else Nx H4) else Nx H3)

section
variable {X : Cx} {s0 : Shared} {H0 : Hp} {cenv : PySem.Env} {fp : List Addr} {elt tg iter : Expr} {ifs : List Expr} {scope : Scope} {pos : Pos} {it a : Addr} {gob : Obj} {tn : Nat → Heap → Prop} {J : It} {τ : L2.St} {vs : List Nat} {g : TG} {tt : TT} {te : TE} {sb : Bool}
  {W : Nat → Nat → Hp → Prop} {QE : Bool → Hp → Prop}
theorem seg_ge (hco : cenv.scope.isCoroutine = false) (T : Turn X.prog X.w X.K tg J fp it tn) (hg : PG (genX X s0 H0 cenv fp) tg g) (ht : PTs (genX X s0 H0 cenv fp) ifs tt) (he : PE (genX X s0 H0 cenv fp) elt te) (ha : a ∉ fp) (turn : GeT J g tt te vs τ sb QE W) :
    ∀ (m i n : Nat) (s₀ s : Shared), m + 1 ≤ n → GeI (genX X s0 H0 cenv fp) a gob fp tn τ W i m s →
      Seg (model X.prog X.w) X.A.in1.in1 (fun n s₀ r s₁ => r = .ok .next ∧ GeP (genX X s0 H0 cenv fp) a gob QE sb n s₀ s₁) (GeY (genX X s0 H0 cenv fp) a gob fp tn τ W QE sb) n s₀
        (.compLoop (.GeneratorExp elt [⟨tg, iter, ifs, 0⟩] scope pos) 0 (.ref it) .none cenv)
        ((model X.prog X.w).den (.compLoop (.GeneratorExp elt [⟨tg, iter, ifs, 0⟩] scope pos) 0 (.ref it) .none cenv)) [] s := by
  intro m
  induction m using Nat.strongRecOn with
  | ind m ih =>
    intro i n s₀ s hn hI
    obtain ⟨H', I, st, nf, w⟩ := hI
    have stat : ∀ {σ' : L2.St} {H' : Hp} {s' : Shared}, Inv (genX X s0 H0 cenv fp) [(a, gob)] σ' H' s' → (∀ b ∈ fp, H' b = none) → ∀ b ∈ fp, FpOk (genX X s0 H0 cenv fp) [(a, gob)] H' b := fun {σ' H' s'} I' hn b hb =>
      ⟨hn b hb, (I'.ok.exf b hb).1, I'.ok.exfs b hb, .inl hb, fun x c e => (I'.ok.exf b hb).2 x c e, fun p hp z => by
        have hp' : p ∈ [(a, gob)] := by
          rcases List.mem_append.mp hp with hp | hp
          · cases hp
          · exact hp
        cases List.mem_singleton.mp hp'
        exact ha (by rw [show a = b from z]; exact hb)⟩
    show Seg _ _ _ _ n s₀ _ ((compTurn (.GeneratorExp elt [⟨tg, iter, ifs, 0⟩] scope pos) 0 (.ref it) .none cenv).onRaise (leaving cenv)) [] s
    rw [compTurn_gen, Sem.onRaise_eq_wrap]
    refine seg_bind_wrap (wpAny_standAt ?_)
    rcases turn i m H' w with ⟨stop, q⟩ | ⟨go, Nx, hNx, step⟩
    · have td := T.done (genX X s0 H0 cenv fp) rfl rfl rfl rfl i [(a, gob)] s τ H' (fun _ _ => False) I (stat I nf) st stop
      refine seg_bind_wrap ?_
      rw [over_gen]
      refine thnF td fun r s6 ⟨hr, I6⟩ => ?_
      subst hr
      exact seg_end (.ok .next) ⟨rfl, τ, H', I6, q⟩
    · have ti := T.item (genX X s0 H0 cenv fp) rfl rfl rfl rfl i [(a, gob)] s τ H' (fun _ _ => False) I (stat I nf) st go
      refine seg_bind_wrap ?_
      rw [over_gen]
      refine thnF ti fun r s6 ⟨u, hr, h6⟩ => ?_
      subst hr
      refine seg_bind_wrap ?_
      rw [over_gen]
      refine thnF h6 fun _ s7 ⟨x, H7, I7, r7, y7, st7, n7⟩ => ?_
      have I7' := I7.pinned (stat I7 n7) (T.obj _ _ st7)
      refine seg_bind_wrap ?_
      rw [over_gen]
      refine thnF (hg.run _ s7 _ H7 x u _ I7' r7 (step x H7 y7)) fun _ s8 ⟨σ8, H8, I8, hw8, q8⟩ => ?_
      refine seg_bind_wrap ?_
      rw [over_gen]
      refine thnF (ht.run _ s8 σ8 H8 _ I8 q8) fun b s9 ⟨H9, I9, q9⟩ => ?_
      have fin : ∀ {s' : Shared} {H' : Hp}, Inv (genX X s0 H0 cenv fp) ([(a, gob)] ++ pinsAt fp s7.heap) σ8 H' s' → Nx H' → ∃ m', m' < m ∧ GeI (genX X s0 H0 cenv fp) a gob fp tn τ W (i + 1) m' s' := fun {s' H'} I' nx => by
        obtain ⟨m', hm, w'⟩ := hNx H' nx
        have pin' : ∀ b ∈ fp, ∀ o, s7.heap.get? b = some o → s'.heap.get? b = some o ∧ H' b = none := fun b hb o e =>
          let z := I'.pin (b, o) (List.mem_append_right _ (List.mem_append_right _ (mem_pinsAt hb e)))
          ⟨z.1, z.2.1⟩
        have hl : τ.length = σ8.length := by rw [← hw8, wipe_length]
        refine ⟨m', hm, H', (I'.unpinned).weak hl (fun j v e => ?_), T.keep _ _ _ st7 fun b hb o e => (pin' b hb o e).1, fun b hb => ?_, w'⟩
        · rw [← hw8] at e
          exact (wipe_some e).1
        · obtain ⟨o, e, _⟩ := T.obj _ _ st7 b hb
          exact (pin' b hb o e).2
      cases b with
      | false =>
        simp only [Bool.false_eq_true, if_false] at q9 ⊢
        obtain ⟨m', hm, hI'⟩ := fin I9 q9
        exact seg_again rfl (ih m' hm (i + 1) n s₀ s9 (by omega) hI')
      | true =>
        simp only [if_true] at q9 ⊢
        have hy : ∀ v, yieldOut cenv v = yieldValue v := fun v => by simp only [yieldOut, hco, Bool.false_eq_true, if_false]
        simp only [hy]
        rw [Sem.bind_eq_wrap', Sem.bind_eq_wrap', Sem.wrap_wrap, Sem.wrap_wrap]
        refine seg_wrap ?_
        rw [over_gen]
        refine thnF (he.run _ s9 σ8 H9 _ I9 q9) fun z s10 ⟨yv, H10, I10, r10, zb, ez, q10⟩ => ?_
        subst ez
        obtain rfl : z = Value.bool zb := r10
        obtain ⟨n', rfl⟩ : ∃ n', n = n' + 1 := ⟨n - 1, by omega⟩
        refine seg_at (seg_yield rfl rfl rfl ⟨zb, rfl, ?_⟩)
        split
        · rename_i hz
          rw [if_pos hz] at q10
          exact ⟨σ8, H10, I10.unpinned, q10⟩
        · rename_i hz
          rw [if_neg hz] at q10
          obtain ⟨m', hm, hI'⟩ := fin I10 q10
          exact ⟨i + 1, m', by omega, hI', fun s' h' => seg_again rfl (ih m' hm (i + 1) n' s' s' (by omega) h')⟩
theorem seg_geS (hco : cenv.scope.isCoroutine = false) (T : Turn X.prog X.w X.K tg J fp it tn) (hg : PG (genX X s0 H0 cenv fp) tg g) (ht : PTs (genX X s0 H0 cenv fp) ifs tt) (he : PE (genX X s0 H0 cenv fp) elt te) (ha : a ∉ fp) (turn : GeT J g tt te vs τ sb QE W)
    (m n : Nat) (s₀ s : Shared) (hn : m + 1 ≤ n) (hI : GeI (genX X s0 H0 cenv fp) a gob fp tn τ W 0 m s) :
      Seg (model X.prog X.w) X.A.in1.in1 (fun n s₀ r s₁ => r = .ok .next ∧ GeP (genX X s0 H0 cenv fp) a gob QE sb n s₀ s₁) (GeY (genX X s0 H0 cenv fp) a gob fp tn τ W QE sb) n s₀
        (.compStart (.GeneratorExp elt [⟨tg, iter, ifs, 0⟩] scope pos) 0 (.ref it) .none cenv)
        ((model X.prog X.w).den (.compStart (.GeneratorExp elt [⟨tg, iter, ifs, 0⟩] scope pos) 0 (.ref it) .none cenv)) [] s := by
  have loop := seg_ge (iter := iter) (scope := scope) (pos := pos) (it := it) hco T hg ht he ha turn m 0 n s₀ s hn hI
  obtain ⟨_, _, st, _, _⟩ := id hI
  show Seg _ _ _ _ n s₀ _ ((compStart (.GeneratorExp elt [⟨tg, iter, ifs, 0⟩] scope pos) 0 (.ref it) .none cenv).onRaise (leaving cenv)) [] s
  unfold compStart
  rw [Sem.onRaise_eq_wrap]
  show Seg _ _ _ _ n s₀ _ ((ask >>= _).wrap _ _ _ _) [] s
  refine seg_bind_wrap (wpAny_askSetting ?_)
  split
  · exact seg_again rfl loop
  · first
      | exact seg_bind_wrap (wpAny_rule (seg_bind_wrap (wpAny_standAt (seg_bind_wrap (T.self _ 0 s _ _ st (seg_again rfl loop))))))
      | (refine seg_bind_wrap (wpAny_rule ?_); show Seg _ _ _ _ n s₀ _ ((standAt iter.pos >>= _).wrap _ _ _ _) [] s; exact seg_bind_wrap (wpAny_standAt (seg_bind_wrap (T.self _ 0 s _ _ st (seg_again rfl loop)))))
end
end Z
end

section
set_option Elab.async false
set_option linter.all false
set_option maxRecDepth 100000
set_option maxHeartbeats 1000000
namespace Z
open PySem PySem.Spec PyProof.Rows L2 GenW

section
variable {X : Cx} {Y : Cx} {fp : List Addr} {a : Addr} {gob : Obj} {g : Nat} {tn : Nat → Heap → Prop} {τ : L2.St} {W : Nat → Nat → Hp → Prop} {QE : Bool → Hp → Prop}
/-- the generator g at a, about to be woken, n turns at most -/
def GeG (P : Program) (w : World) (B : Around) (Y : Cx) (a : Addr) (gob : Obj) (g : Nat) (fp : List Addr) (tn : Nat → Heap → Prop) (τ : L2.St) (W : Nat → Nat → Hp → Prop) (QE : Bool → Hp → Prop) (sb : Bool) (n : Nat) (s : Shared) : Prop :=
  s.heap.IsGen a g ∧ s.heap.NoLimit ∧ ∃ gs, s.gens[g]? = some gs ∧
    gs.Goes (model P w) B (fun n s₀ r s₁ => r = .ok .next ∧ GeP Y a gob QE sb n s₀ s₁) (GeY Y a gob fp tn τ W QE sb) n (.send .none) (s.setGen g .running)

theorem GeI.isGen {i m : Nat} {s s1 : Shared} (hg : s.heap.IsGen a g) (hgo : s.heap.get? a = some gob) (h : GeI Y a gob fp tn τ W i m s1) : s1.heap.IsGen a g ∧ s1.heap.NoLimit ∧ AllBare s1.gens := by
  obtain ⟨H', I, _, _, _⟩ := h
  obtain ⟨o, nm, qn, ho, r⟩ := hg
  rw [hgo] at ho
  cases ho
  exact ⟨⟨gob, nm, qn, (I.pin (a, gob) (List.mem_append_right _ (List.mem_singleton.mpr rfl))).1, r⟩, I.nolimit, I.bare⟩
theorem GeE.ends {z : Bool} {s1 s' : Shared} (h : GeE Y a gob QE z s1) (hpn : True) (ho : s'.os = s1.os) (hk : ∀ b o, s1.heap.get? b = some o → s'.heap.get? b = some o) (hg : AllBare s'.gens) : GeE Y a gob QE z s' := by
  obtain ⟨σ', H', I, q⟩ := h
  obtain ⟨hh, gg, d, t, o⟩ := s'
  have e : o = s1.os := ho
  subst e
  have J := I.kept (h' := hh) (t' := t) hk
  exact ⟨σ', H', Inv.gens (s' := ⟨hh, gg, d, t, s1.os⟩) J rfl rfl hg, q⟩

/-- all(g) -/
theorem loop_all {P : Program} {w : World} {A : Around} {R : Result → Shared → Prop} (hh : A.handled = none) (hd : A.depth < recursionLimit)
    (hR : ∀ z s', GeE Y a gob QE z s' → R (.ok (.ret (.bool z))) s') :
    ∀ (n : Nat) (s : Shared), s.heap.get? a = some gob → GeG P w A.in1.in1 Y a gob g fp tn τ W QE false n s → codeAny (model P w) A (.builtin "all.loop" ⟨[.ref a], []⟩) R s := by
  intro n
  induction n with
  | zero =>
    intro s hgo ⟨hg, hl, gs, hgs, go⟩
    have hgl : g < s.gens.size := (Array.getElem?_eq_some_iff.mp hgs).1
    refine codeAny_builtin PySem.F.entry_all_loop ?_
    rw [Around.under_plainId PySem.F.plain_all_loop _]
    show wpAny _ A.in1 (pyNext (.ref a) >>= _) _ _ s
    refine wpAny_bind (wpAny_gsz (n := g + 1) hgl (wpAny_pyNext_genexpQ (A := A.in1) hh hl hd hg hgs go (fun v s₁ gs' hb hv => ?_) (fun s₁ hp h' hk => ?_)))
    · intro hsz
      obtain ⟨z, rfl, hz⟩ := hv
      refine wpAny_bind (wpAny_holding (wpAny_truthy_bool ?_))
      refine wpAny_bind (wpAny_letGo ?_)
      by_cases e : z = false
      · rw [if_pos e] at hz
        subst e
        simp only [Bool.false_eq_true, if_false]
        refine wpAny_bind (wpAny_rule (wpAny_pure ?_))
        obtain ⟨σ', H', I, q⟩ := id hz
        exact hR false _ (hz.ends trivial rfl (fun _ _ e => e) (allBare_setGen I.bare hb))
      · rw [if_neg e] at hz
        obtain ⟨i, m, hm, _⟩ := hz
        omega
    · intro hsz
      obtain ⟨σ', H', I, q⟩ := id hp
      refine wpAny_bind (wpAny_rule (wpAny_pure ?_))
      exact hR true _ (GeE.ends hp trivial rfl hk (allBare_setGen I.bare rfl))
  | succ n ih =>
    intro s hgo ⟨hg, hl, gs, hgs, go⟩
    have hgl : g < s.gens.size := (Array.getElem?_eq_some_iff.mp hgs).1
    refine codeAny_builtin PySem.F.entry_all_loop ?_
    rw [Around.under_plainId PySem.F.plain_all_loop _]
    show wpAny _ A.in1 (pyNext (.ref a) >>= _) _ _ s
    refine wpAny_bind (wpAny_gsz (n := g + 1) hgl (wpAny_pyNext_genexpQ (A := A.in1) hh hl hd hg hgs go (fun v s₁ gs' hb hv => ?_) (fun s₁ hp h' hk => ?_)))
    · intro hsz
      obtain ⟨z, rfl, hz⟩ := hv
      refine wpAny_bind (wpAny_holding (wpAny_truthy_bool ?_))
      refine wpAny_bind (wpAny_letGo ?_)
      by_cases e : z = false
      · rw [if_pos e] at hz
        subst e
        simp only [Bool.false_eq_true, if_false]
        refine wpAny_bind (wpAny_rule (wpAny_pure ?_))
        obtain ⟨σ', H', I, q⟩ := id hz
        exact hR false _ (hz.ends trivial rfl (fun _ _ e => e) (allBare_setGen I.bare hb))
      · rw [if_neg e] at hz
        have e' : z = true := by cases z <;> simp_all
        subst e'
        obtain ⟨i, m, hm, hI, hk⟩ := hz
        simp only [if_true]
        obtain ⟨k1, k2, k3⟩ := GeI.isGen hg hgo hI
        have hb2 := allBare_setGen (g := g) k3 hb
        refine wpAny_pure ⟨plainId_quiet PySem.F.plain_all_loop _, ih (s₁.setGen g gs') ?_ ⟨k1, k2, gs', ?_, ?_⟩⟩
        · obtain ⟨H', I, _⟩ := id hI
          exact (I.pin (a, gob) (List.mem_append_right _ (List.mem_singleton.mpr rfl))).1
        · refine setGen_at ?_
          rw [setGen_size] at hsz
          exact hsz
        · exact hk _ (hI.gens rfl rfl (allBare_setGen hb2 rfl))
    · intro hsz
      obtain ⟨σ', H', I, q⟩ := id hp
      refine wpAny_bind (wpAny_rule (wpAny_pure ?_))
      exact hR true _ (GeE.ends hp trivial rfl hk (allBare_setGen I.bare rfl))
/-- any(g) -/
theorem loop_any {P : Program} {w : World} {A : Around} {R : Result → Shared → Prop} (hh : A.handled = none) (hd : A.depth < recursionLimit)
    (hR : ∀ z s', GeE Y a gob QE z s' → R (.ok (.ret (.bool z))) s') :
    ∀ (n : Nat) (s : Shared), s.heap.get? a = some gob → GeG P w A.in1.in1 Y a gob g fp tn τ W QE true n s → codeAny (model P w) A (.builtin "any.loop" ⟨[.ref a], []⟩) R s := by
  intro n
  induction n with
  | zero =>
    intro s hgo ⟨hg, hl, gs, hgs, go⟩
    have hgl : g < s.gens.size := (Array.getElem?_eq_some_iff.mp hgs).1
    refine codeAny_builtin PySem.F.entry_any_loop ?_
    rw [Around.under_plainId PySem.F.plain_any_loop _]
    show wpAny _ A.in1 (pyNext (.ref a) >>= _) _ _ s
    refine wpAny_bind (wpAny_gsz (n := g + 1) hgl (wpAny_pyNext_genexpQ (A := A.in1) hh hl hd hg hgs go (fun v s₁ gs' hb hv => ?_) (fun s₁ hp h' hk => ?_)))
    · intro hsz
      obtain ⟨z, rfl, hz⟩ := hv
      refine wpAny_bind (wpAny_holding (wpAny_truthy_bool ?_))
      refine wpAny_bind (wpAny_letGo ?_)
      by_cases e : z = true
      · rw [if_pos e] at hz
        subst e
        simp only [if_true]
        refine wpAny_bind (wpAny_rule (wpAny_pure ?_))
        obtain ⟨σ', H', I, q⟩ := id hz
        exact hR true _ (hz.ends trivial rfl (fun _ _ e => e) (allBare_setGen I.bare hb))
      · rw [if_neg e] at hz
        obtain ⟨i, m, hm, _⟩ := hz
        omega
    · intro hsz
      obtain ⟨σ', H', I, q⟩ := id hp
      refine wpAny_bind (wpAny_rule (wpAny_pure ?_))
      exact hR false _ (GeE.ends hp trivial rfl hk (allBare_setGen I.bare rfl))
  | succ n ih =>
    intro s hgo ⟨hg, hl, gs, hgs, go⟩
    have hgl : g < s.gens.size := (Array.getElem?_eq_some_iff.mp hgs).1
    refine codeAny_builtin PySem.F.entry_any_loop ?_
    rw [Around.under_plainId PySem.F.plain_any_loop _]
    show wpAny _ A.in1 (pyNext (.ref a) >>= _) _ _ s
    refine wpAny_bind (wpAny_gsz (n := g + 1) hgl (wpAny_pyNext_genexpQ (A := A.in1) hh hl hd hg hgs go (fun v s₁ gs' hb hv => ?_) (fun s₁ hp h' hk => ?_)))
    · intro hsz
      obtain ⟨z, rfl, hz⟩ := hv
      refine wpAny_bind (wpAny_holding (wpAny_truthy_bool ?_))
      refine wpAny_bind (wpAny_letGo ?_)
      by_cases e : z = true
      · rw [if_pos e] at hz
        subst e
        simp only [if_true]
        refine wpAny_bind (wpAny_rule (wpAny_pure ?_))
        obtain ⟨σ', H', I, q⟩ := id hz
        exact hR true _ (hz.ends trivial rfl (fun _ _ e => e) (allBare_setGen I.bare hb))
      · rw [if_neg e] at hz
        have e' : z = false := by cases z <;> simp_all
        subst e'
        obtain ⟨i, m, hm, hI, hk⟩ := hz
        simp only [Bool.false_eq_true, if_false]
        obtain ⟨k1, k2, k3⟩ := GeI.isGen hg hgo hI
        have hb2 := allBare_setGen (g := g) k3 hb
        refine wpAny_pure ⟨plainId_quiet PySem.F.plain_any_loop _, ih (s₁.setGen g gs') ?_ ⟨k1, k2, gs', ?_, ?_⟩⟩
        · obtain ⟨H', I, _⟩ := id hI
          exact (I.pin (a, gob) (List.mem_append_right _ (List.mem_singleton.mpr rfl))).1
        · refine setGen_at ?_
          rw [setGen_size] at hsz
          exact hsz
        · exact hk _ (hI.gens rfl rfl (allBare_setGen hb2 rfl))
    · intro hsz
      obtain ⟨σ', H', I, q⟩ := id hp
      refine wpAny_bind (wpAny_rule (wpAny_pure ?_))
      exact hR false _ (GeE.ends hp trivial rfl hk (allBare_setGen I.bare rfl))
end
end Z
end

section
set_option Elab.async false
set_option linter.all false
set_option maxRecDepth 100000
set_option maxHeartbeats 1000000
namespace Z
open PySem PySem.Spec PyProof.Rows L2 GenW
section
variable {X : Cx} {pins : List (Addr × Obj)} {σ : L2.St} {H : Hp} {s : Shared}
theorem ge_start {scope : Scope} {own : List (Str × Nat)} {fp : List Addr} {h' : Heap} {g' : Array GenState} {t' : Nat} {a : Addr} {gob : Obj} {code : Value} {m : Str → Option Value} (I : Inv X pins σ H s) (hc : X.calm = true) (ok : BlkOk X.N X.env.scope scope own) (hcell : ∀ y ∈ scope.names, y.2 ≠ .cell) (hN : X.N.Nodup)
    (hfp : ∀ b ∈ fp, FpOk X pins H b ∧ b < s.heap.objs.size) (hn' : h'.Ns s.heap.objs.size m) (kp : ∀ b o, s.heap.get? b = some o → h'.get? b = some o) (hg' : AllBare g') (ha : s.heap.objs.size < a) (hao : h'.get? a = some gob) (had : ∀ v, gob.data ≠ .cell v) :
    Inv (genX X s H (genEnv scope (cloFrom X.env.cells scope.names []) s.heap.objs.size code builtinsNs X.env) fp) [(a, gob)] (wipe σ (own.map (·.2))) H { s with heap := h', gens := g', toks := t' } := by
  have hfree : ∀ y ∈ scope.names, y.2 = .free → ∃ c, X.env.cells.lookup y.1 = some c := fun y hy e => by
    rcases ok.free y hy e with k | k
    · exact I.ok.has _ (.inl k)
    · exact I.ok.has _ (.inr k)
  generalize hcenv : genEnv scope (cloFrom X.env.cells scope.names []) s.heap.objs.size code builtinsNs X.env = cenv
  have hL : cenv.locals = s.heap.objs.size := by rw [← hcenv]; rfl
  have hcl : cenv.cells = cloFrom X.env.cells scope.names [] := by rw [← hcenv]; rfl
  have hsc : cenv.scope = scope := by rw [← hcenv]; rfl
  have cm : ∀ {y c}, (y, c) ∈ cloFrom X.env.cells scope.names [] → X.env.cells.lookup y = some c ∧ c < s.heap.objs.size := fun {y c} hm => by
    rcases cloFrom_mem hm with hm | ⟨h1, rfl⟩
    · cases hm
    · obtain ⟨c, hc⟩ := hfree _ h1 rfl
      rw [hc]
      obtain ⟨w, z⟩ := I.cell _ _ hc
      exact ⟨rfl, z.lt⟩
  have mem : ∀ {y c}, cenv.cells.lookup y = some c → X.env.cells.lookup y = some c ∧ c < s.heap.objs.size := fun {y c} e => by
    rw [hcl] at e
    exact cm (PySem.mem_of_lookup e)
  have look : ∀ {y}, scope.names.lookup y = some .free → ∃ c, cenv.cells.lookup y = some c ∧ X.env.cells.lookup y = some c := fun {y} hl => by
    have hy : (y, NameKind.free) ∈ scope.names := PySem.mem_of_lookup hl
    obtain ⟨c', e'⟩ := mem_lookup (cloFrom_has (cells := X.env.cells) (acc := []) hy)
    rw [← hcl] at e'
    exact ⟨c', e', (mem e').1⟩
  have okB : (genX X s H cenv fp).Ok := by
    refine ⟨I.ok.mod, by show cenv.scope.kind = _; rw [hsc]; exact ok.kind, by show cenv.globals = _; rw [← hcenv]; exact I.ok.glob, by show cenv.builtins = _; rw [← hcenv]; rfl, by show s.heap.objs.size ≤ cenv.locals; rw [hL]; exact Nat.le_refl _,
      fun y z c e1 e2 => ?_, fun y hy => ?_, fun y c z e => absurd (show false = true from z) Bool.false_ne_true, fun _ => I.ok.hd hc, ?_, .inr ⟨rfl, ?_⟩, fun b hb => ⟨?_, fun y c e z => ?_⟩, I.bs, Nat.le_trans I.ok.bsz I.sz, fun b o e hb => ?_, fun b hb z => ?_, I.stack, I.stkFree⟩
    · exact I.ok.inj y z c (mem e1).1 (mem e2).1
    · show ∃ c, cenv.cells.lookup y = some c
      rcases hy with hy | hy
      · have hy : cenv.scope.names.lookup y = some .cell := hy
        rw [hsc] at hy
        exact absurd rfl (hcell _ (PySem.mem_of_lookup hy))
      · have hy : cenv.scope.names.lookup y = some .free := hy
        rw [hsc] at hy
        obtain ⟨c, h1, _⟩ := look hy
        exact ⟨c, h1⟩
    · show X.A.frames.map (cenv :: ·) = some (cenv :: X.stack)
      rw [I.ok.frames]; rfl
    · show cenv.frame = some cenv.locals
      rw [← hcenv]; rfl
    · show b ≠ cenv.locals
      rw [hL]; exact Nat.ne_of_lt (hfp b hb).2
    · exact (hfp b hb).1.2.2.2.2.1 y c (mem e).1 z
    · rcases (hfp b hb).1.2.2.2.1 with z | z
      · exact I.ok.noex b o e z
      · exact absurd (Nat.lt_of_lt_of_le (Heap.lt_size e) (Nat.le_trans I.ok.bsz z)) (Nat.lt_irrefl _)
    · rcases List.mem_cons.mp (I.stkSub b z) with z | z
      · exact (hfp b hb).1.2.1 z
      · exact (hfp b hb).1.2.2.1 z
  refine ⟨okB, rfl, hg', Un.kept kp, ⟨m, ?_, fun i y av e1 e2 e3 => ?_⟩, fun y c e => ?_, ?_, fun y c e => ?_, fun p hp => ?_, I.hok.kept kp, by rw [wipe_length]; exact I.len⟩
  · show Heap.Ns _ cenv.locals _
    rw [hL]
    exact hn'
  · obtain ⟨e2, hne⟩ := wipe_some e2
    have e3 : Vis cenv.scope y := e3
    rw [hsc] at e3
    have no : ∀ k', scope.names.lookup y = some k' → ¬ (k' = .local ∨ k' = .cell) := fun k' e hh => by
      rcases ok.own _ (PySem.mem_of_lookup e) hh with e' | e'
      · obtain ⟨p, hp, hpy⟩ := List.mem_map.mp e'
        have e3 := ok.ix p hp
        have : p.1 = y := hpy
        rw [this] at e3
        exact hne (List.mem_map.mpr ⟨p, hp, nodup_ix hN e3 e1⟩)
      · exact e' (List.mem_of_getElem? e1)
    have hfr : scope.names.lookup y = some .free := by
      rcases e3 with e3 | e3 | e3
      · exact absurd (.inl rfl) (no _ e3)
      · exact absurd (.inr rfl) (no _ e3)
      · exact e3
    obtain ⟨m0, hn, hl⟩ := I.loc
    have hvis : Vis X.env.scope y := (ok.free _ (PySem.mem_of_lookup hfr) rfl).elim (fun k => .inr (.inl k)) (fun k => .inr (.inr k))
    obtain ⟨w, r, q⟩ := hl i y av e1 e2 hvis
    refine ⟨w, r, .inr ⟨.inr (show cenv.scope.names.lookup y = some .free by rw [hsc]; exact hfr), ?_⟩⟩
    obtain ⟨c, h1, h2⟩ := look hfr
    rcases q with ⟨k, _⟩ | ⟨_, c', e', z⟩
    · have k : X.env.scope.names.lookup y = some .local := k
      rcases ok.free _ (PySem.mem_of_lookup hfr) rfl with k' | k' <;> rw [show X.env.scope.names.lookup y = _ from k'] at k <;> cases k
    · rw [h2] at e'; cases e'
      exact ⟨c, h1, z.keeps kp⟩
  · have e : cenv.cells.lookup y = some c := e
    obtain ⟨w, z⟩ := I.cell y c (mem e).1
    exact ⟨w, z.keeps kp⟩
  · show H cenv.locals = none
    rw [hL]; exact I.hok.fresh (Nat.le_refl _)
  · have e : cenv.cells.lookup y = some c := e
    exact I.freeC y c (mem e).1
  · have hp' : p ∈ [(a, gob)] := by
      rcases List.mem_append.mp hp with hp | hp
      · cases hp
      · exact hp
    cases List.mem_singleton.mp hp'
    refine ⟨hao, I.hok.fresh (Nat.le_of_lt ha), ?_, ?_, had⟩
    · show a ≠ cenv.locals
      rw [hL]; exact Nat.ne_of_gt ha
    · show a ∉ frs X.stack
      intro z
      rcases List.mem_cons.mp (I.stkSub a z) with z | z
      · rw [z] at ha
        exact absurd (Nat.lt_trans ha I.lt) (Nat.lt_irrefl _)
      · exact I.nofs (Nat.le_of_lt ha) z

/-- all(..), any(..) of a generator expression; P: the def's own table -/
def tGe (P : Addr) (sb : Bool) (wi : TI) (g : TG) (tt : TT) (te : TE) (vs : List Nat) : TE := fun σ H Q => wi σ H fun J H1 => ∃ ps : Array Value, H1 P = some (.tbl ps) ∧ TriplesOk ps.toList ∧
  ∀ more : Array Value, TriplesOk (ps ++ more).toList → ∃ W : Nat → Nat → Hp → Prop, (∃ m, W 0 m (upd H1 P (.tbl (ps ++ more)))) ∧ GeT J g tt te vs (wipe σ vs) sb (fun z H => Q (.bl z) H) W
/-- the generator is made and goes to its consumer -/
theorem ge_make {c P : Addr} {elt tg iter : Expr} {ifs : List Expr} {scope : Scope} {own : List (Str × Nat)} {gpos : Pos} {wi : TI} {g : TG} {tt : TT} {te : TE} {k : Nat} {sb : Bool} {Q : V → Hp → Prop} {Q' : Value → Shared → Prop}
    (hr : Room k X.A) (hc : X.calm = true) (hN : X.N.Nodup) (TB : GxR.TabB X.base X.mg c P) (hcode : X.env.code = .ref c) (ok : BlkOk X.N X.env.scope scope own) (hco : scope.isCoroutine = false) (hcell : ∀ y ∈ scope.names, y.2 ≠ .cell) (hdot : scope.names.lookup (".0" : Str) = some NameKind.local)
    (hi : PI X tg iter wi)
    (hg : ∀ (s : Shared) (H : Hp) (cl : List (Str × Addr)) (C : Addr) (code : Value) (bi : Addr) (fp : List Addr), PG (genX X s H (genEnv scope cl C code bi X.env) fp) tg g)
    (ht : ∀ (s : Shared) (H : Hp) (cl : List (Str × Addr)) (C : Addr) (code : Value) (bi : Addr) (fp : List Addr), PTs (genX X s H (genEnv scope cl C code bi X.env) fp) ifs tt)
    (he : ∀ (s : Shared) (H : Hp) (cl : List (Str × Addr)) (C : Addr) (code : Value) (bi : Addr) (fp : List Addr), PE (genX X s H (genEnv scope cl C code bi X.env) fp) elt te)
    (hs : ∀ v, genFold iter X.env v = pure v) (I : Inv X pins σ H s) (h : tGe P sb wi g tt te (own.map (·.2)) σ H Q)
    (hQ : ∀ Y a gob gn fp tn τ W n s5, s5.heap.get? a = some gob → GeG X.prog X.w X.A.in1.in1 Y a gob gn fp tn τ W (fun z H => Q (.bl z) H) sb n s5 → (∀ z s', GeE Y a gob (fun z H => Q (.bl z) H) z s' → EP X pins σ Q (.bool z) s') → Q' (.ref a) s5) :
    wpAny (model X.prog X.w) X.A (eval (.GeneratorExp elt [⟨tg, iter, ifs, 0⟩] scope gpos) X.env) Q' X.xe s := by
  have hfree : ∀ y ∈ scope.names, y.2 = .free → ∃ c, X.env.cells.lookup y.1 = some c := fun y hy e => by
    rcases ok.free y hy e with k | k
    · exact I.ok.has _ (.inl k)
    · exact I.ok.has _ (.inr k)
  refine wpAny_GeneratorExp_make hco (closure_ok hfree) hcell hdot ok.kind (by have := hr.dp; omega) ?_ hs
  refine thn (hi.run pins s σ H _ I h) fun xv s1 h1 => thn h1 fun itv s2 h2 => ?_
  obtain ⟨it, fp, tn, J, H2, e, I2, T, st2, f2, ps, hP, htr, q⟩ := h2
  subst e
  have hPs : s2.heap.get? P = some { cls := .none, data := .fields ps } := I2.hok P _ hP
  have cd : PySem.W.CodeHd s2.heap c P := TB.code.keeps fun b u e => I2.bk b u e
  have sz : ∀ b ∈ fp, b < s2.heap.objs.size := fun b hb => by
    obtain ⟨o, e, _⟩ := T.obj _ _ st2 b hb
    exact Heap.lt_size e
  have nP : ∀ b ∈ fp, b ≠ P := fun b hb z => by
    have n0 := (f2 b hb).1
    rw [z, hP] at n0
    cases n0
  refine ⟨I2.nolimit, ?_⟩
  have cont : ∀ (code : Value) (h3 : Heap) (tk : Nat) (more : Array Value), Heap.ExtBut P s2.heap h3 → s2.heap.objs.size ≤ h3.objs.size → h3.get? P = some { cls := .none, data := .fields (ps ++ more) } → TriplesOk (ps ++ more).toList →
      wpAny (model X.prog X.w) X.A (builtinsFor X.env.globals X.env.builtins) (fun bi s₄ =>
        ∀ h', h'.Ns s₄.heap.objs.size (fun y => if y = ".0" then some (Value.ref it) else none) → Heap.SameBut s₄.heap.objs.size (s₄.heap.push { cls := .type "frame", data := .dict #[] }) h' →
          Q' (.ref h'.objs.size) { s₄ with
            gens := s₄.gens.push (.fresh (.compStart (.GeneratorExp elt [⟨tg, iter, ifs, 0⟩] scope gpos) 0 (.ref it) .none (genEnv scope (cloFrom X.env.cells scope.names []) s₄.heap.objs.size code bi X.env))),
            toks := s₄.toks + 1 + 1 + 1,
            heap := h'.push { cls := .type "generator", data := .fields #[.int s₄.gens.size 0, .str "<genexpr>" (s₄.toks + 1), .str (X.env.qual ++ "<genexpr>") (s₄.toks + 1 + 1)] } }) X.xe { s2 with heap := h3, toks := tk } := by
    intro code h3 tk more hx hsz hP3 ht3
    have keep3 : ∀ b u, b ≠ P → s2.heap.get? b = some u → h3.get? b = some u := fun b u hb e => hx b u hb e
    have I3 : Inv X pins σ (upd H2 P (.tbl (ps ++ more))) { s2 with heap := h3, toks := tk } := GxR.inv_tab (g' := s2.gens) (d' := s2.drawn) I2 hP keep3 hP3 I2.bare
    obtain ⟨bm, ob, e1, e2, e3, e4, e5, e6, e7, e8⟩ := TB.bm
    refine wpAny_builtinsFor (m := X.mg) (by rw [I2.ok.glob]; exact (I2.mod.glob.keeps I2.bk).extBut hx TB.gP) e1 e2 (keep3 _ _ e4 (I2.bk _ _ e5)) e6 e7 e8 ?_
    intro h' hn' hs'
    obtain ⟨W, ⟨m0, w0⟩, turn⟩ := q more ht3
    generalize hs3 : ({ s2 with heap := h3, toks := tk } : Shared) = s3 at I3 hn' hs' ⊢
    have hh3 : s3.heap = h3 := by rw [← hs3]
    have hsz' : h'.objs.size = s3.heap.objs.size + 1 := by rw [hs'.1, Heap.size_push]
    have keep' : ∀ b o, s3.heap.get? b = some o → h'.get? b = some o := fun b o e => hs'.extBut b o (Nat.ne_of_lt (Heap.lt_size e)) (Heap.get?_push_of_some _ e)
    have keep5 : ∀ b o, s3.heap.get? b = some o → (h'.push { cls := .type "generator", data := .fields #[.int s3.gens.size 0, .str "<genexpr>" (s3.toks + 1), .str (X.env.qual ++ "<genexpr>") (s3.toks + 1 + 1)] }).get? b = some o :=
      fun b o e => Heap.get?_push_of_some _ (keep' b o e)
    have f3 : ∀ b ∈ fp, FpOk X pins (upd H2 P (.tbl (ps ++ more))) b ∧ b < s3.heap.objs.size := fun b hb => ⟨⟨by rw [upd_ne (nP b hb)]; exact (f2 b hb).1, (f2 b hb).2⟩, by rw [hh3]; exact Nat.lt_of_lt_of_le (sz b hb) hsz⟩
    have bareG : AllBare (s3.gens.push (.fresh (.compStart (.GeneratorExp elt [⟨tg, iter, ifs, 0⟩] scope gpos) 0 (.ref it) .none (genEnv scope (cloFrom X.env.cells scope.names []) s3.heap.objs.size code builtinsNs X.env)))) := I3.bare.push rfl
    have hlta : s3.heap.objs.size < h'.objs.size := by rw [hsz']; exact Nat.lt_succ_self _
    have J5 := ge_start (t' := s3.toks + 1 + 1 + 1) (code := code) I3 hc ok hcell hN f3 (hn'.push { cls := .type "generator", data := .fields #[.int s3.gens.size 0, .str "<genexpr>" (s3.toks + 1), .str (X.env.qual ++ "<genexpr>") (s3.toks + 1 + 1)] }) keep5 bareG hlta (Heap.get?_push_size _ rfl) (fun v z => by cases z)
    have st5 : tn 0 (h'.push { cls := .type "generator", data := .fields #[.int s3.gens.size 0, .str "<genexpr>" (s3.toks + 1), .str (X.env.qual ++ "<genexpr>") (s3.toks + 1 + 1)] }) := T.keep _ _ _ st2 fun b hb o e => keep5 b o (by rw [hh3]; exact keep3 b o (nP b hb) e)
    refine hQ (genX X s3 (upd H2 P (.tbl (ps ++ more))) (genEnv scope (cloFrom X.env.cells scope.names []) s3.heap.objs.size code builtinsNs X.env) fp) h'.objs.size _ s3.gens.size fp tn (wipe σ (own.map (·.2))) W (m0 + 1) _ (Heap.get?_push_size _ rfl) ⟨⟨_, _, _, Heap.get?_push_size _ rfl, rfl, rfl, rfl⟩, J5.nolimit, _, Array.getElem?_push_size .., rfl, ?_⟩ fun z s' hz => ?_
    · refine seg_geS (by show scope.isCoroutine = false; exact hco) T (hg _ _ _ _ _ _ _) (ht _ _ _ _ _ _ _) (he _ _ _ _ _ _ _) (fun hm => ?_) turn m0 (m0 + 1) _ _ (Nat.le_refl _) ?_
      · exact absurd (Nat.lt_trans hlta (f3 _ hm).2) (Nat.lt_irrefl _)
      · refine ⟨_, Inv.gens J5 rfl rfl (allBare_setGen bareG rfl), st5, fun b hb => (f3 b hb).1.1, w0⟩
    · obtain ⟨σ', H', I6, q6⟩ := hz
      exact ⟨.bl z, H', I3.call' (ch := fp) I6.os I6.base I6.hok I6.bare fun b hb => ⟨(f3 b hb).1.2.2.2.1, (f3 b hb).1.2.1, (f3 b hb).1.2.2.2.2.1, (f3 b hb).1.2.2.2.2.2⟩, rfl, q6⟩
  cases hf : codeAmong gpos ps.toList with
  | none =>
    refine wpAny_genexprCodeX hcode (cd.code hPs htr) (cd.tab hPs) hf fun c' h' tk hx hge hlt hco' _ htab' _ => ?_
    obtain ⟨o1, vs1, f1, tf, fl, tg1, inF, tx, tt1, op, _, _, _, _, _, _, _, _, _, htr1, _⟩ := hco'
    exact cont _ h' tk _ hx (Nat.le_trans hge (Nat.le_of_lt hlt)) htab'.2 htr1
  | some cv =>
    refine wpAny_genexprCode_hit hcode (cd.code hPs htr) hf ?_
    exact cont cv s2.heap s2.toks #[] (Heap.ExtBut.refl _ _) (Nat.le_refl _) (by simpa using hPs) (by simpa using htr)

section
variable {c P : Addr} {elt tg iter : Expr} {ifs : List Expr} {scope : Scope} {own : List (Str × Nat)} {gpos p pos : Pos} {wi : TI} {g : TG} {tt : TT} {te : TE} {k : Nat}
theorem pe_allG (hr : Room k X.A) (hgl : Gl X "all") (hm : X.mg "all" = none) (hc : X.calm = true) (hN : X.N.Nodup) (TB : GxR.TabB X.base X.mg c P) (hcode : X.env.code = .ref c) (ok : BlkOk X.N X.env.scope scope own) (hco : scope.isCoroutine = false) (hcell : ∀ y ∈ scope.names, y.2 ≠ .cell) (hdot : scope.names.lookup (".0" : Str) = some NameKind.local)
    (hi : PI X tg iter wi)
    (hg : ∀ (s : Shared) (H : Hp) (cl : List (Str × Addr)) (C : Addr) (code : Value) (bi : Addr) (fp : List Addr), PG (genX X s H (genEnv scope cl C code bi X.env) fp) tg g)
    (ht : ∀ (s : Shared) (H : Hp) (cl : List (Str × Addr)) (C : Addr) (code : Value) (bi : Addr) (fp : List Addr), PTs (genX X s H (genEnv scope cl C code bi X.env) fp) ifs tt)
    (he' : ∀ (s : Shared) (H : Hp) (cl : List (Str × Addr)) (C : Addr) (code : Value) (bi : Addr) (fp : List Addr), PE (genX X s H (genEnv scope cl C code bi X.env) fp) elt te)
    (hs : ∀ v, genFold iter X.env v = pure v)
    (he : starEach [.GeneratorExp elt [⟨tg, iter, ifs, 0⟩] scope gpos] X.env = (false, eval (.GeneratorExp elt [⟨tg, iter, ifs, 0⟩] scope gpos) X.env) :: starEach [] X.env := by rfl) :
    PE X (.Call (.Name "all" p) [.GeneratorExp elt [⟨tg, iter, ifs, 0⟩] scope gpos] [] pos) (tGe P false wi g tt te (own.map (·.2))) := by
  refine ⟨fun pins s σ H Q I h => ?_⟩
  refine wpAny_Call_Name_kw (ld_blt I hgl hm boot_all ?_)
  refine PyProof.Rows.callWith_builtin1 ?_ he (by rfl)
  rw [he]
  show wpAny _ _ (spliced ((false, eval (.GeneratorExp elt [⟨tg, iter, ifs, 0⟩] scope gpos) X.env) :: backTo pos (starEach [] X.env))) _ _ s
  refine Calls.spliced_cons (ge_make hr hc hN TB hcode ok hco hcell hdot hi hg ht he' hs I h fun Y a gob gn fp tn τ W n s5 hao hG hR => ?_)
  refine Calls.spliced_nil ?_
  refine call_function_tree PySem.F.kind_all PySem.F.plain_all PySem.F.entry_all (PySem.F.args_all1 _) ?_
  unfold Builtin.«all»
  refine wpAny_bind (m := oneArg "all" _) (wpAny_pure ?_)
  refine wpAny_bind (wpAny_pyIter_gen hG.1 ?_)
  refine wpAny_pure ⟨plainId_quiet PySem.F.plain_all_loop _, loop_all (A := X.A) (I.ok.hd hc) (by have := hr.dp; omega) (fun z s' hz => hR z s' hz) n s5 hao hG⟩
theorem pe_anyG (hr : Room k X.A) (hgl : Gl X "any") (hm : X.mg "any" = none) (hc : X.calm = true) (hN : X.N.Nodup) (TB : GxR.TabB X.base X.mg c P) (hcode : X.env.code = .ref c) (ok : BlkOk X.N X.env.scope scope own) (hco : scope.isCoroutine = false) (hcell : ∀ y ∈ scope.names, y.2 ≠ .cell) (hdot : scope.names.lookup (".0" : Str) = some NameKind.local)
    (hi : PI X tg iter wi)
    (hg : ∀ (s : Shared) (H : Hp) (cl : List (Str × Addr)) (C : Addr) (code : Value) (bi : Addr) (fp : List Addr), PG (genX X s H (genEnv scope cl C code bi X.env) fp) tg g)
    (ht : ∀ (s : Shared) (H : Hp) (cl : List (Str × Addr)) (C : Addr) (code : Value) (bi : Addr) (fp : List Addr), PTs (genX X s H (genEnv scope cl C code bi X.env) fp) ifs tt)
    (he' : ∀ (s : Shared) (H : Hp) (cl : List (Str × Addr)) (C : Addr) (code : Value) (bi : Addr) (fp : List Addr), PE (genX X s H (genEnv scope cl C code bi X.env) fp) elt te)
    (hs : ∀ v, genFold iter X.env v = pure v)
    (he : starEach [.GeneratorExp elt [⟨tg, iter, ifs, 0⟩] scope gpos] X.env = (false, eval (.GeneratorExp elt [⟨tg, iter, ifs, 0⟩] scope gpos) X.env) :: starEach [] X.env := by rfl) :
    PE X (.Call (.Name "any" p) [.GeneratorExp elt [⟨tg, iter, ifs, 0⟩] scope gpos] [] pos) (tGe P true wi g tt te (own.map (·.2))) := by
  refine ⟨fun pins s σ H Q I h => ?_⟩
  refine wpAny_Call_Name_kw (ld_blt I hgl hm boot_any ?_)
  refine PyProof.Rows.callWith_builtin1 ?_ he (by rfl)
  rw [he]
  show wpAny _ _ (spliced ((false, eval (.GeneratorExp elt [⟨tg, iter, ifs, 0⟩] scope gpos) X.env) :: backTo pos (starEach [] X.env))) _ _ s
  refine Calls.spliced_cons (ge_make hr hc hN TB hcode ok hco hcell hdot hi hg ht he' hs I h fun Y a gob gn fp tn τ W n s5 hao hG hR => ?_)
  refine Calls.spliced_nil ?_
  refine call_function_tree PySem.F.kind_any PySem.F.plain_any PySem.F.entry_any (PySem.F.args_any1 _) ?_
  unfold Builtin.«any»
  refine wpAny_bind (m := oneArg "any" _) (wpAny_pure ?_)
  refine wpAny_bind (wpAny_pyIter_gen hG.1 ?_)
  refine wpAny_pure ⟨plainId_quiet PySem.F.plain_any_loop _, loop_any (A := X.A) (I.ok.hd hc) (by have := hr.dp; omega) (fun z s' hz => hR z s' hz) n s5 hao hG⟩
end
end
end Z
end

section
set_option Elab.async false
set_option linter.all false
set_option maxRecDepth 100000
set_option maxHeartbeats 1000000
/-! any, all of a generator expression: what is computed -/
namespace Z
noncomputable section
open PySem PySem.Spec PyProof.Rows L2
open Classical in
def geGo (sb : Bool) (g : Sto → Prop) (t : Tg) (c : DenT) (elt : Den) (env : Env) : List D → Sto → R D
  | [], S => if g S then .ok (.bl (!sb)) S else .bad
  | x :: xs, S => if g S then match t.run x env with
    | some env' => match c env' S with
      | .ok b S1 => if b then (match elt env' S1 with
        | .ok (.bl z) S2 => if z = sb then .ok (.bl sb) S2 else geGo sb g t c elt env xs S2
        | _ => .bad) else geGo sb g t c elt env xs S1
      | _ => .bad
    | none => .bad
    else .bad
def dGe (sb : Bool) (src : DenI) (vs : List Nat) (t : Tg) (c : DenT) (elt : Den) : Den := fun env S => (src env S).bind fun a S1 => geGo sb a.2 t c elt (wipeE env vs) a.1 S1
section
variable {K : PySem.W.Frag} {ι : Em} {H : Hp} {S : Sto} {P : Addr} {ps more : Array Value}
theorem Ext.grow (hP : H P = some (.tbl ps)) : Ext ι H ι (upd H P (.tbl (ps ++ more))) := by
  refine ⟨⟨[], rfl, by simp⟩, ⟨[], by simp, by simp⟩, fun a o hc h => ?_⟩
  by_cases e : a = P
  · subst e
    rw [hP] at h; cases h
    exact ⟨_, upd_same, .inr ⟨ps, more, rfl, rfl⟩⟩
  · exact ⟨o, (upd_ne e).trans h, .inl rfl⟩
theorem Sr.grow (s : Sr K H ι S) (hT : P ∈ tabs) (hP : H P = some (.tbl ps)) (ht : TriplesOk (ps ++ more).toList) : Sr K (upd H P (.tbl (ps ++ more))) ι S := by
  have hn := (s.tab P hT).2
  refine ⟨s.len, s.nd, fun b hb => upd_some (s.ban b hb), fun n a c e1 e2 => (s.cell n a c e1 e2).ext (Ext.grow hP) (upd_ne fun z => hn (.inl (by rw [← z]; exact List.mem_of_getElem? e1))), fun Q hQ => ?_⟩
  by_cases e : Q = P
  · subst e
    exact ⟨⟨_, upd_same, ht⟩, hn⟩
  · exact ⟨tab_upd (s.tab Q hQ).1 e, (s.tab Q hQ).2⟩
end
section
variable {X : Cx} {W : WX}
theorem rd_ge {K : PySem.W.Frag} {mg : Str → Option Value} {P : Addr} {sb : Bool} {src : DenI} {vs : List Nat} {t : Tg} {c : DenT} {elt : Den} (hT : P ∈ tabs) (hsl : ∀ i ∈ t.sl, i ∈ vs) {σ : L2.St} {H : Hp} {Q : VK} (h : rd K mg W (dGe sb src vs t c elt) σ H Q) :
    tGe P sb (rdI K mg W src) (rdG K t) (rdT K mg W0 c) (rd K mg W0 elt) vs σ H Q := by
  obtain ⟨ι, env, S, s, er, p⟩ := h
  refine ⟨ι, env, S, s, er, (Post.bind (Rel' := fun H1 ι1 J a => ItOk K J a.1 a.2 ι1 H1) p).mono ?_⟩
  rintro J H1 ⟨ι1, ⟨xs, g⟩, S1, e1, s1, r1, p1⟩
  have erw := (er.ext e1).wipe vs
  clear p er e1 s
  simp only at r1 p1
  obtain ⟨⟨ps, hP, htr⟩, hnP⟩ := s1.tab P hT
  refine ⟨ps, hP, htr, fun more hm => ?_⟩
  refine ⟨fun i m H => m = xs.length - i ∧ i ≤ xs.length ∧ ∃ ι2 S2, Ext ι1 H1 ι2 H ∧ Sr K H ι2 S2 ∧
      Post K mg (Rp K) W σ ι1 H1 (geGo sb g t c elt (wipeE env vs) (xs.drop i) S2) Q,
    ⟨xs.length, rfl, Nat.zero_le _, ι1, S1, Ext.grow hP, s1.grow hT hP hm, p1⟩, ?_⟩
  rintro i m H2 ⟨rfl, hi, ι2, S2, e2, s2, p2⟩
  by_cases hlt : i < xs.length
  · rw [List.drop_eq_getElem_cons hlt] at p2
    simp only [geGo] at p2
    split at p2
    · rename_i hg2
      obtain ⟨go, gy⟩ := r1.go ι2 H2 S2 i _ e2 s2 hg2 (List.getElem?_eq_getElem hlt)
      refine .inr ⟨go, fun H' => ∃ ι2 S2, Ext ι1 H1 ι2 H' ∧ Sr K H' ι2 S2 ∧
        Post K mg (Rp K) W σ ι1 H1 (geGo sb g t c elt (wipeE env vs) (xs.drop (i + 1)) S2) Q,
        fun H' q => ⟨xs.length - (i + 1), by omega, rfl, hlt, q⟩, fun v H3 y => ?_⟩
      obtain ⟨e3, s3, r3⟩ := gy v H3 y
      split at p2
      · rename_i env' e5
        refine ⟨ι2, wipeE env vs, _, env', (erw.ext e2).ext e3, r3, e5, fun ws hw er' => ⟨?_, ?_⟩⟩
        · rw [wipe_sets fun p hp => hsl _ (hw p hp), wipe_idem]
        refine ⟨ι2, env', S2, s3, er', ?_⟩
        split at p2
        · rename_i b S3 ec
          rw [ec]
          intro ι3 H4 b' e4 s4 hbb
          subst hbb
          have e14 := (e2.tr s2 e3).tr s3 e4
          cases b' with
          | false =>
            rw [if_neg Bool.false_ne_true]
            exact ⟨ι3, S3, e14, s4, p2⟩
          | true =>
            rw [if_pos rfl]
            simp only [if_true] at p2
            refine ⟨ι3, env', S3, s4, er'.ext e4, ?_⟩
            split at p2
            · rename_i z S5 ee
              rw [ee]
              intro ι4 H5 yv e5' s5 r5
              cases r5
              have e15 := e14.tr s4 e5'
              refine ⟨z, rfl, ?_⟩
              split at p2
              · rename_i hz
                rw [if_pos hz]
                exact p2 ι4 H5 _ e15 s5 (.bl sb)
              · rename_i hz
                rw [if_neg hz]
                exact ⟨ι4, S5, e15, s5, p2⟩
            · exact p2.elim
        · exact p2.elim
      · exact p2.elim
    · exact p2.elim
  · have hi' : i = xs.length := by omega
    subst hi'
    rw [List.drop_length] at p2
    simp only [geGo] at p2
    split at p2
    · rename_i hg2
      exact .inl ⟨r1.stop ι2 H2 S2 e2 s2 hg2, p2 ι2 H2 _ e2 s2 (.bl _)⟩
    · exact p2.elim
end
section
variable {X : Cx} {W : WX} {c P : Addr} {elt tg iter : Expr} {ifs : List Expr} {scope : Scope} {own : List (Str × Nat)} {gpos p pos : Pos} {src : DenI} {t : Tg} {dc : DenT} {d : Den} {k : Nat}
/-- a scope of a generator expression, by reckoning -/
def genC (scope : Scope) : Bool := !scope.isCoroutine && (scope.names.all fun y => match y.2 with | .cell => false | _ => true) && decide (scope.names.lookup (".0" : Str) = some NameKind.local)
theorem gen_by (h : genC scope = true) : scope.isCoroutine = false ∧ (∀ y ∈ scope.names, y.2 ≠ .cell) ∧ scope.names.lookup (".0" : Str) = some NameKind.local := by
  unfold genC at h
  simp only [Bool.and_eq_true, Bool.not_eq_true', List.all_eq_true, decide_eq_true_eq] at h
  obtain ⟨⟨h1, h2⟩, h3⟩ := h
  refine ⟨h1, fun y hy e => ?_, h3⟩
  have q := h2 y hy
  rw [e] at q
  cases q
theorem e_allG (hr : RoomZ k X.A) (hm : X.mg "all" = none) (hc : X.calm = true) (hN : X.N.Nodup) (TB : GxR.TabB X.base X.mg c P) (hT : P ∈ tabs) (hcode : X.env.code = .ref c) (hi : II X W tg iter src) (ok : BlkOk X.N X.env.scope scope own) (hgc : genC scope = true)
    (hg : ∀ (s : Shared) (H : Hp) (cl : List (Str × Addr)) (C : Addr) (code : Value) (bi : Addr) (fp : List Addr), GG (genX X s H (genEnv scope cl C code bi X.env) fp) tg t)
    (ht : ∀ (s : Shared) (H : Hp) (cl : List (Str × Addr)) (C : Addr) (code : Value) (bi : Addr) (fp : List Addr), PTs (genX X s H (genEnv scope cl C code bi X.env) fp) ifs (rdT X.K X.mg W0 dc))
    (he' : ∀ (s : Shared) (H : Hp) (cl : List (Str × Addr)) (C : Addr) (code : Value) (bi : Addr) (fp : List Addr), EE (genX X s H (genEnv scope cl C code bi X.env) fp) W0 elt d)
    (hsl : ∀ i ∈ t.sl, i ∈ own.map (·.2)) (hgl : Gl X "all" := by rfl) (hs : ∀ v, genFold iter X.env v = pure v := by intro _; rfl)
    (he : starEach [.GeneratorExp elt [⟨tg, iter, ifs, 0⟩] scope gpos] X.env = (false, eval (.GeneratorExp elt [⟨tg, iter, ifs, 0⟩] scope gpos) X.env) :: starEach [] X.env := by rfl) :
    EE X W (.Call (.Name "all" p) [.GeneratorExp elt [⟨tg, iter, ifs, 0⟩] scope gpos] [] pos) (dGe false src (own.map (·.2)) t dc d) :=
  PE.imp (pe_allG hr.r hgl hm hc hN TB hcode ok (gen_by hgc).1 (gen_by hgc).2.1 (gen_by hgc).2.2 hi hg ht he' hs he) fun σ H Q h => rd_ge hT hsl h
theorem e_anyG (hr : RoomZ k X.A) (hm : X.mg "any" = none) (hc : X.calm = true) (hN : X.N.Nodup) (TB : GxR.TabB X.base X.mg c P) (hT : P ∈ tabs) (hcode : X.env.code = .ref c) (hi : II X W tg iter src) (ok : BlkOk X.N X.env.scope scope own) (hgc : genC scope = true)
    (hg : ∀ (s : Shared) (H : Hp) (cl : List (Str × Addr)) (C : Addr) (code : Value) (bi : Addr) (fp : List Addr), GG (genX X s H (genEnv scope cl C code bi X.env) fp) tg t)
    (ht : ∀ (s : Shared) (H : Hp) (cl : List (Str × Addr)) (C : Addr) (code : Value) (bi : Addr) (fp : List Addr), PTs (genX X s H (genEnv scope cl C code bi X.env) fp) ifs (rdT X.K X.mg W0 dc))
    (he' : ∀ (s : Shared) (H : Hp) (cl : List (Str × Addr)) (C : Addr) (code : Value) (bi : Addr) (fp : List Addr), EE (genX X s H (genEnv scope cl C code bi X.env) fp) W0 elt d)
    (hsl : ∀ i ∈ t.sl, i ∈ own.map (·.2)) (hgl : Gl X "any" := by rfl) (hs : ∀ v, genFold iter X.env v = pure v := by intro _; rfl)
    (he : starEach [.GeneratorExp elt [⟨tg, iter, ifs, 0⟩] scope gpos] X.env = (false, eval (.GeneratorExp elt [⟨tg, iter, ifs, 0⟩] scope gpos) X.env) :: starEach [] X.env := by rfl) :
    EE X W (.Call (.Name "any" p) [.GeneratorExp elt [⟨tg, iter, ifs, 0⟩] scope gpos] [] pos) (dGe true src (own.map (·.2)) t dc d) :=
  PE.imp (pe_anyG hr.r hgl hm hc hN TB hcode ok (gen_by hgc).1 (gen_by hgc).2.1 (gen_by hgc).2.2 hi hg ht he' hs he) fun σ H Q h => rd_ge hT hsl h
end
end
end Z
end

section
set_option Elab.async false
set_option linter.all false
set_option maxRecDepth 100000
set_option maxHeartbeats 1000000
/-! defs whose code objects' tables grow -/
namespace Z
noncomputable section
open PySem PySem.Spec PyProof.Rows L2
theorem roomG {X : Cx} {s : Shared} {H : Hp} {cenv : PySem.Env} {fp : List Addr} {k : Nat} (hr : RoomZ (k + 1) X.A) : RoomZ k (genX X s H cenv fp).A :=
  ⟨⟨hr.r.hd, by have := hr.r.dp; show X.A.depth + 1 + 3 * k + 5 < _; omega, by have := hr.r.un; show X.A.units + 1 + 1 + 3 + 16 * k + 200 < _; omega⟩, hr.gd⟩
theorem gen_inE {X : Cx} {s : Shared} {H : Hp} {cenv : PySem.Env} {fp : List Addr} {j k : Nat} {e : Expr} {t : TE} (hr : RoomZ j X.A) (hk : k + 1 ≤ j) (h : RoomZ k (genX X s H cenv fp).A → PE (genX X s H cenv fp) e t) : PE (genX X s H cenv fp) e t := h (roomG (hr.mono hk))
theorem gen_inT {X : Cx} {s : Shared} {H : Hp} {cenv : PySem.Env} {fp : List Addr} {j k : Nat} {e : List Expr} {t : TT} (hr : RoomZ j X.A) (hk : k + 1 ≤ j) (h : RoomZ k (genX X s H cenv fp).A → PTs (genX X s H cenv fp) e t) : PTs (genX X s H cenv fp) e t := h (roomG (hr.mono hk))
section
variable {P : Program} {w : World} {K : PySem.W.Frag} {mg : Str → Option Value} {base : Heap}
theorem fn_okT {x qual : Str} {st : Stmt} {f : Addr} {fd : FuncData} {N ps : List Str} {k : Nat} {body : SDen} (F : Fun K x qual st f fd) (S : FnScope N ps (defScope st)) (hN : ps.length ≤ N.length)
    (hb : ∀ (cdv : Value) (A : Around) (outer : List PySem.Env) (s : Shared) (H : Hp) (E : XK), fd.code = cdv → RoomZ k (A.deeper (envOfC qual (defScope st) s.heap.objs.size f cdv)) →
      L2N.Takes (cxOf (L2N.CX P w) P w K mg base N qual (defScope st) f cdv A outer s H E) (wE E) → SSs (cxOf (L2N.CX P w) P w K mg base N qual (defScope st) f cdv A outer s H E) (wE E) (defBody st) body) :
    FnZ P w K mg base (k + 1) f fd ps (fnF N.length body) := by
  obtain ⟨oc, od, kV, doc, pm, an, cdv, ct, osl, rfl, lk, hcd⟩ := F.ex
  exact fn_ofG lk hcd S (fun vs H Q E h => h.1) fun A outer s H vs Q E hr h => ⟨_, hb cdv A outer s H E rfl hr (L2N.takes_of rfl rfl rfl rfl), fn_fin hN h⟩
theorem fn_okDT {x qual : Str} {st : Stmt} {f : Addr} {fd : FuncData} {N ps : List Str} {k : Nat} {body : SDen} {dvs : List V} {kws : List (Str × V)} (F : FunD K x qual (defArgs st) (defBody st) (defScope st) dvs kws f fd) (S : FnScope N ps (defScope st)) (hN : ps.length ≤ N.length)
    (hb : ∀ (cdv : Value) (A : Around) (outer : List PySem.Env) (s : Shared) (H : Hp) (E : XK), fd.code = cdv → RoomZ k (A.deeper (envOfC qual (defScope st) s.heap.objs.size f cdv)) →
      L2N.Takes (cxOf (L2N.CX P w) P w K mg base N qual (defScope st) f cdv A outer s H E) (wE E) → SSs (cxOf (L2N.CX P w) P w K mg base N qual (defScope st) f cdv A outer s H E) (wE E) (defBody st) body) :
    FnZ P w K mg base (k + 1) f fd ps (fnF N.length body) := by
  obtain ⟨oc, od, dV, kV, doc, pm, an, cdv, ct, osl, rfl, lk, hcd, _, _⟩ := F.ex
  exact fn_ofG lk hcd S (fun vs H Q E h => h.1) fun A outer s H vs Q E hr h => ⟨_, hb cdv A outer s H E rfl hr (L2N.takes_of rfl rfl rfl rfl), fn_fin hN h⟩
end
end
end Z
end

section
set_option Elab.async false
set_option linter.all false
set_option maxRecDepth 100000
set_option maxHeartbeats 1000000
namespace Z
noncomputable section
open PySem PySem.Spec PyProof.Rows L2
/-! ### zip of two lists, of two tuples -/
def zipD (xs ys : List D) : List D := List.zipWith (fun x y => .tup [x, y]) xs ys
theorem zipD_get {xs ys : List D} {i : Nat} {d : D} (h : (zipD xs ys)[i]? = some d) : ∃ x y, xs[i]? = some x ∧ ys[i]? = some y ∧ d = .tup [x, y] := by
  unfold zipD at h
  rw [List.getElem?_zipWith] at h
  cases hx : xs[i]? with
  | none => rw [hx] at h; cases h
  | some x =>
    cases hy : ys[i]? with
    | none => rw [hx, hy] at h; cases h
    | some y => rw [hx, hy] at h; cases h; exact ⟨x, y, rfl, rfl, rfl⟩
theorem zipD_len (xs ys : List D) : (zipD xs ys).length = min xs.length ys.length := by unfold zipD; rw [List.length_zipWith]
def iZip (a : DenA) : DenI := fun env S => (a env S).bind fun ds S1 => match ds with
  | [x, y] => if isT x = isT y then match seqOf S1 x, seqOf S1 y with
    | some xs, some ys => .ok (zipD xs ys, fun S => still x xs S ∧ still y ys S) S1
    | _, _ => .bad
    else .bad
  | _ => .bad
theorem still_now {x : D} {xs : List D} {S : Sto} (h : seqOf S x = some xs) : still x xs S := by
  cases x with
  | ref n =>
    simp only [seqOf] at h
    split at h
    · rename_i ys e; cases h; exact e
    · cases h
  | _ => trivial
section
variable {K : PySem.W.Frag} {ι : Em} {H : Hp} {S S1 : Sto} {a b : Addr} {x y : D} {xs ys : List D}
theorem isT_tup (h : isT x = true) : ∃ zs, x = .tup zs := by
  cases x with
  | tup zs => exact ⟨zs, rfl⟩
  | _ => cases h
theorem zipL_ok (r : Rp K H ι (.ref a) x) (r2 : Rp K H ι (.ref b) y) (h : isT x = false) (h2 : isT y = false) (e : seqOf S1 x = some xs) (e2 : seqOf S1 y = some ys) : ItOk K (Itz K a b) (zipD xs ys) (fun S => still x xs S ∧ still y ys S) ι H := by
  have get : ∀ (ι2 : Em) (H2 : Hp) (S2 : Sto), Ext ι H ι2 H2 → Sr K H2 ι2 S2 → (still x xs S2 ∧ still y ys S2) → ∃ vs ws, SqL K H2 a vs ∧ SqL K H2 b ws ∧ Rps K H2 ι2 vs xs ∧ Rps K H2 ι2 ws ys := fun ι2 H2 S2 ex s2 g => by
    obtain ⟨a', vs, ea, q1, rs1⟩ := still_L s2 (r.ext ex) e g.1 h
    obtain ⟨b', ws, eb, q2, rs2⟩ := still_L s2 (r2.ext ex) e2 g.2 h2
    cases ea; cases eb
    exact ⟨vs, ws, q1, q2, rs1, rs2⟩
  refine ⟨fun ι2 H2 S2 i d ex s g hd => ?_, fun ι2 H2 S2 ex s g => ?_⟩
  · obtain ⟨vs, ws, q1, q2, rs1, rs2⟩ := get ι2 H2 S2 ex s g
    obtain ⟨dx, dy, hx, hy, rfl⟩ := zipD_get hd
    obtain ⟨v, hv, rv⟩ := rs1.get hx
    obtain ⟨w, hw, rw'⟩ := rs2.get hy
    refine ⟨⟨vs, ws, v, w, q1, q2, hv, hw⟩, ?_⟩
    rintro u H3 ⟨T, p, q, rfl, hT, rfl, at1, at2⟩
    have e1 := at1 vs q1
    have e3 := at2 ws q2
    rw [hv] at e1; cases e1
    rw [hw] at e3; cases e3
    exact ⟨Ext.new hT, s.new hT, .tup (s.out hT) upd_same (.cons (rv.ext (Ext.new hT)) (.cons (rw'.ext (Ext.new hT)) .nil))⟩
  · obtain ⟨vs, ws, q1, q2, rs1, rs2⟩ := get ι2 H2 S2 ex s g
    refine ⟨vs, ws, q1, q2, ?_⟩
    rw [zipD_len, rs1.length, rs2.length]
    omega
theorem zipT_ok (r : Rp K H ι (.ref a) (.tup xs)) (r2 : Rp K H ι (.ref b) (.tup ys)) {g : Sto → Prop} : ItOk K (RZ.ItzT K a b) (zipD xs ys) g ι H := by
  have get : ∀ (ι2 : Em) (H2 : Hp), Ext ι H ι2 H2 → ∃ vs ws, SqT K H2 a vs ∧ SqT K H2 b ws ∧ Rps K H2 ι2 vs xs ∧ Rps K H2 ι2 ws ys := fun ι2 H2 ex => by
    obtain ⟨a', vs, ea, q1, rs1⟩ := (r.ext ex).tup_inv
    obtain ⟨b', ws, eb, q2, rs2⟩ := (r2.ext ex).tup_inv
    cases ea; cases eb
    exact ⟨vs, ws, q1, q2, rs1, rs2⟩
  refine ⟨fun ι2 H2 S2 i d ex s g hd => ?_, fun ι2 H2 S2 ex s g => ?_⟩
  · obtain ⟨vs, ws, q1, q2, rs1, rs2⟩ := get ι2 H2 ex
    obtain ⟨dx, dy, hx, hy, rfl⟩ := zipD_get hd
    obtain ⟨v, hv, rv⟩ := rs1.get hx
    obtain ⟨w, hw, rw'⟩ := rs2.get hy
    refine ⟨⟨vs, ws, v, w, q1, q2, hv, hw⟩, ?_⟩
    rintro u H3 ⟨T, p, q, rfl, hT, rfl, at1, at2⟩
    have e1 := at1 vs q1
    have e3 := at2 ws q2
    rw [hv] at e1; cases e1
    rw [hw] at e3; cases e3
    exact ⟨Ext.new hT, s.new hT, .tup (s.out hT) upd_same (.cons (rv.ext (Ext.new hT)) (.cons (rw'.ext (Ext.new hT)) .nil))⟩
  · obtain ⟨vs, ws, q1, q2, rs1, rs2⟩ := get ι2 H2 ex
    refine ⟨vs, ws, q1, q2, ?_⟩
    rw [zipD_len, rs1.length, rs2.length]
    omega
end
section
variable {X : Cx} {W : WX} {e e2 : Expr} {es : List Expr} {da : DenA} {pos p tpos : Pos} {kk : Nat}
theorem rd_zip {K : PySem.W.Frag} {mg : Str → Option Value} {σ : L2.St} {H : Hp} {R : It → Hp → Prop} (h : rdI K mg W (iZip da) σ H R) : RZ.iZipA K (rdA K mg W da) σ H R := by
  obtain ⟨ι, env, S, s, er, p⟩ := h
  refine ⟨ι, env, S, s, er, (Post.bind (Rel' := Rps K) p).mono ?_⟩
  rintro vs H1 ⟨ι1, ds, S1, e1, s1, r1, p1⟩
  split at p1
  · rename_i x y
    obtain ⟨v, w, rfl, rx, ry⟩ := rps2 r1
    split at p1
    · rename_i hT
      split at p1
      · rename_i xs ys ex ey
        cases ht : isT x with
        | false =>
          rw [ht] at hT
          obtain ⟨a, us, rfl, qa, _⟩ := still_L s1 rx ex (still_now ex) ht
          obtain ⟨b, ws, rfl, qb, _⟩ := still_L s1 ry ey (still_now ey) hT.symm
          exact ⟨a, b, us, ws, rfl, .inl ⟨qa, qb, p1 ι1 H1 _ Ext.refl s1 (zipL_ok rx ry ht hT.symm ex ey)⟩⟩
        | true =>
          rw [ht] at hT
          obtain ⟨zs, rfl⟩ := isT_tup ht
          obtain ⟨ws, rfl⟩ := isT_tup hT.symm
          obtain ⟨a, us, rfl, qa, _⟩ := rx.tup_inv
          obtain ⟨b, us2, rfl, qb, _⟩ := ry.tup_inv
          cases ex; cases ey
          exact ⟨a, b, us, us2, rfl, .inr ⟨qa, qb, p1 ι1 H1 _ Ext.refl s1 (zipT_ok rx ry)⟩⟩
      · exact p1.elim
    · exact p1.elim
  · exact p1.elim
theorem i_zip (hg : Gl X "zip") (hm : X.mg "zip" = none) (ha : AA X W [e, e2] da) (hs : starEach [e, e2] X.env = (false, eval e X.env) :: starEach [e2] X.env := by rfl) (hpl : (backTo pos (starEach [e2] X.env)).any (·.1) = false := by rfl) :
    II X W (.Tuple es kk tpos) (.Call (.Name "zip" p) [e, e2] [] pos) (iZip da) := PI.imp (RZ.pi_zipA hg hm ha hs hpl) fun σ H R h => rd_zip h
end
end
end Z
end

section
set_option Elab.async false
set_option linter.all false
set_option maxRecDepth 100000
set_option maxHeartbeats 1000000
namespace Z
noncomputable section
open PySem PySem.Spec PyProof.Rows L2
/-! ### bits of ints; sum, max, min of a list of ints; divmod -/
def fAndI (x y : D) (S : Sto) : R D := match x, y with
  | .int i, .int j => .ok (.int (Builtin.bitAnd i j)) S
  | _, _ => .bad
def fOrI (x y : D) (S : Sto) : R D := match x, y with
  | .int i, .int j => .ok (.int (Builtin.bitOr i j)) S
  | _, _ => .bad
def fSumI (xs : List D) (S : Sto) : R D := match xs with
  | [x] => match lstOf S x with
    | some ys => match intsD ys with
      | some ns => .ok (.int ns.sum) S
      | none => .bad
    | none => .bad
  | _ => .bad
/-- the greatest, the least of some ints -/
def maxI : List Int → Int
  | [] => 0
  | [n] => n
  | n :: m :: r => if maxI (m :: r) ≤ n then n else maxI (m :: r)
def minI : List Int → Int
  | [] => 0
  | [n] => n
  | n :: m :: r => if n ≤ minI (m :: r) then n else minI (m :: r)
theorem maxI_of : ∀ {ns : List Int} {m : Int}, m ∈ ns → (∀ y ∈ ns, y ≤ m) → maxI ns = m
  | [n], m, h, _ => by
    cases List.mem_singleton.mp h; rfl
  | n :: k :: r, m, h, g => by
    rw [maxI]
    by_cases e : m ∈ k :: r
    · rw [maxI_of e fun y hy => g y (List.mem_cons_of_mem _ hy)]
      split
      · have := g n List.mem_cons_self; omega
      · rfl
    · have hm : m = n := by
        rcases List.mem_cons.mp h with h | h
        · exact h
        · exact absurd h e
      subst hm
      have : maxI (k :: r) ≤ m := by
        have key : ∀ (l : List Int), l ≠ [] → maxI l ∈ l := fun l => by
          induction l with
          | nil => intro q; exact absurd rfl q
          | cons a l ih =>
            intro _
            cases l with
            | nil => exact List.mem_cons_self
            | cons b l =>
              rw [maxI]
              split
              · exact List.mem_cons_self
              · exact List.mem_cons_of_mem _ (ih (by simp))
        exact g _ (List.mem_cons_of_mem _ (key _ (by simp)))
      rw [if_pos this]
theorem minI_of : ∀ {ns : List Int} {m : Int}, m ∈ ns → (∀ y ∈ ns, m ≤ y) → minI ns = m
  | [n], m, h, _ => by
    cases List.mem_singleton.mp h; rfl
  | n :: k :: r, m, h, g => by
    rw [minI]
    by_cases e : m ∈ k :: r
    · rw [minI_of e fun y hy => g y (List.mem_cons_of_mem _ hy)]
      split
      · have := g n List.mem_cons_self; omega
      · rfl
    · have hm : m = n := by
        rcases List.mem_cons.mp h with h | h
        · exact h
        · exact absurd h e
      subst hm
      have : m ≤ minI (k :: r) := by
        have key : ∀ (l : List Int), l ≠ [] → minI l ∈ l := fun l => by
          induction l with
          | nil => intro q; exact absurd rfl q
          | cons a l ih =>
            intro _
            cases l with
            | nil => exact List.mem_cons_self
            | cons b l =>
              rw [minI]
              split
              · exact List.mem_cons_self
              · exact List.mem_cons_of_mem _ (ih (by simp))
        exact g _ (List.mem_cons_of_mem _ (key _ (by simp)))
      rw [if_pos this]
def fBestI (f : List Int → Int) (xs : List D) (S : Sto) : R D := match xs with
  | [x] => match lstOf S x with
    | some ys => match intsD ys with
      | some ns => if 0 < ns.length then .ok (.int (f ns)) S else .bad
      | none => .bad
    | none => .bad
  | _ => .bad
def fDivmod (xs : List D) (S : Sto) : R D := match xs with
  | [.int i, .int j] => if DivOk j then .ok (.tup [.int (i / j), .int (i % j)]) S else .bad
  | _ => .bad
section
variable {K : PySem.W.Frag} {X : Cx}
theorem sAndI : OpS K (rI0 fun i j => .int (Builtin.bitAnd i j)) fAndI := opI0S (fun _ _ _ => rfl) fun _ _ => .int _
theorem sOrI : OpS K (rI0 fun i j => .int (Builtin.bitOr i j)) fOrI := opI0S (fun _ _ _ => rfl) fun _ _ => .int _
theorem sSumI : CbS K (rSum K) fSumI := by
  intro mg W σ ι H S xs ds Q s r p
  unfold fSumI at p
  split at p
  · obtain ⟨x, rfl, r0⟩ := rps1 r
    split at p
    · rename_i ys e
      split at p
      · rename_i ns e2
        obtain ⟨a, vs, rfl, hs, rs⟩ := lst_inv s r0 e
        rw [ints_rps rs e2] at hs
        exact ⟨a, ns, rfl, hs, p.ret s (.int _)⟩
      · exact p.elim
    · exact p.elim
  · exact p.elim
theorem sMaxI : CbS K (rMax K) (fBestI maxI) := by
  intro mg W σ ι H S xs ds Q s r p
  unfold fBestI at p
  split at p
  · obtain ⟨x, rfl, r0⟩ := rps1 r
    split at p
    · rename_i ys e
      split at p
      · rename_i ns e2
        obtain ⟨a, vs, rfl, hs, rs⟩ := lst_inv s r0 e
        rw [ints_rps rs e2] at hs
        split at p
        · rename_i hn
          exact ⟨a, ns, rfl, hs, hn, fun m hm hg => p.ret s (by rw [maxI_of hm hg]; exact .int _)⟩
        · exact p.elim
      · exact p.elim
    · exact p.elim
  · exact p.elim
abbrev rDivmod : List V → Hp → VK → Prop := fun xs H Q => ∃ i j, xs = [.int i, .int j] ∧ CDivP i j ∧ ∀ p, H p = none → Q (.ref p) (upd H p (.tup [.int (i / j), .int (i % j)]))
theorem sDivmod : CbS K rDivmod fDivmod := by
  intro mg W σ ι H S xs ds Q s r p
  unfold fDivmod at p
  split at p
  · rename_i i j
    obtain ⟨x, y, rfl, rx, ry⟩ := rps2 r
    obtain ⟨rfl, rfl⟩ := int2 rx ry
    split at p
    · rename_i h
      exact ⟨i, j, rfl, ⟨h.1, PyProof.noPylong_of_log2 h.2⟩, fun q hq => p ι _ _ (Ext.new hq) (s.new hq) (.tup (s.out hq) upd_same (.cons (.int _) (.cons (.int _) .nil)))⟩
    · exact p.elim
  · exact p.elim
theorem sMinI : CbS K (rMin K) (fBestI minI) := by
  intro mg W σ ι H S xs ds Q s r p
  unfold fBestI at p
  split at p
  · obtain ⟨x, rfl, r0⟩ := rps1 r
    split at p
    · rename_i ys e
      split at p
      · rename_i ns e2
        obtain ⟨a, vs, rfl, hs, rs⟩ := lst_inv s r0 e
        rw [ints_rps rs e2] at hs
        split at p
        · rename_i hn
          exact ⟨a, ns, rfl, hs, hn, fun m hm hg => p.ret s (by rw [minI_of hm hg]; exact .int _)⟩
        · exact p.elim
      · exact p.elim
    · exact p.elim
  · exact p.elim
end
end
end Z
end

section
set_option Elab.async false
set_option linter.all false
set_option maxRecDepth 100000
set_option maxHeartbeats 1000000
namespace Z
noncomputable section
open PySem PySem.Spec PyProof.Rows L2
/-! ### isinstance(x, (tuple, list)) -/
def fIsi2 (t u : Ty) (x : D) (S : Sto) : R D := if refOk S x = true then .ok (.bl (isTy t x || isTy u x)) S else .bad
def dIsi2 (t u : Ty) (a : Den) : Den := fun env S => (a env S).bind fun x S1 => fIsi2 t u x S1
theorem isi_ok2 {K : PySem.W.Frag} {H : Hp} {ι : Em} {S : Sto} {v : V} {d : D} (t u : Ty) (s : Sr K H ι S) (r : Rp K H ι v d) (hr : refOk S d = true) : ∃ tv, TyX K H v tv ∧ PySem.W.kitAny K tv [.type t.nm, .type u.nm] = some (isTy t d || isTy u d) := by
  have key : ∀ {tv : Value}, TyX K H v tv → PySem.W.kitOne K tv (.type t.nm) = some (isTy t d) → PySem.W.kitOne K tv (.type u.nm) = some (isTy u d) → ∃ tv, TyX K H v tv ∧ PySem.W.kitAny K tv [.type t.nm, .type u.nm] = some (isTy t d || isTy u d) := fun {tv} h1 h2 h3 => by
    refine ⟨tv, h1, ?_⟩
    unfold PySem.W.kitAny
    rw [h2]
    cases isTy t d with
    | true => rfl
    | false =>
      simp only [PySem.W.kitAny, h3]
      cases isTy u d <;> rfl
  cases r with
  | non => exact key (.base .non) (by cases t <;> exact kit_ty (by decide +kernel)) (by cases u <;> exact kit_ty (by decide +kernel))
  | bl b => exact key (.base (.bl b)) (by cases t <;> exact kit_ty (by simp only [isTy]; decide +kernel)) (by cases u <;> exact kit_ty (by simp only [isTy]; decide +kernel))
  | int b => exact key (.base (.int b)) (by cases t <;> exact kit_ty (by simp only [isTy]; decide +kernel)) (by cases u <;> exact kit_ty (by simp only [isTy]; decide +kernel))
  | str b => exact key (.base (.str b)) (by cases t <;> exact kit_ty (by simp only [isTy]; decide +kernel)) (by cases u <;> exact kit_ty (by simp only [isTy]; decide +kernel))
  | tup _ h2 _ => exact key (.base (.tup h2)) (by cases t <;> exact kit_ty (by simp only [isTy]; decide +kernel)) (by cases u <;> exact kit_ty (by simp only [isTy]; decide +kernel))
  | tupK h _ => exact key h.ty (by cases t <;> exact kit_ty (by simp only [isTy]; decide +kernel)) (by cases u <;> exact kit_ty (by simp only [isTy]; decide +kernel))
  | lst _ h2 _ => exact key (.base (.lst h2)) (by cases t <;> exact kit_ty (by simp only [isTy]; decide +kernel)) (by cases u <;> exact kit_ty (by simp only [isTy]; decide +kernel))
  | frz _ h2 _ => exact key (.base (.frz h2)) (by cases t <;> exact kit_ty (by simp only [isTy]; decide +kernel)) (by cases u <;> exact kit_ty (by simp only [isTy]; decide +kernel))
  | frzK h _ => exact key h.ty (by cases t <;> exact kit_ty (by simp only [isTy]; decide +kernel)) (by cases u <;> exact kit_ty (by simp only [isTy]; decide +kernel))
  | ref h =>
    simp only [refOk] at hr
    split at hr
    · rename_i xs e
      obtain ⟨vs, h1, _⟩ := s.list h e
      exact key (.base (.lst h1)) (by cases t <;> exact kit_ty (by simp only [isTy]; decide +kernel)) (by cases u <;> exact kit_ty (by simp only [isTy]; decide +kernel))
    · cases hr
  | err _ _ _ => cases hr
section
variable {X : Cx} {W : WX} {a : Expr} {da : Den} {p q q2 pos tpos : Pos} {kk : Nat}
theorem e_isi2 (t u : Ty) {x y : Str} (hx : x = Str.ofString t.nm) (hy : y = Str.ofString u.nm) (hg : Gl X "isinstance") (hm : X.mg "isinstance" = none) (hg2 : Gl X x) (hm2 : X.mg x = none) (hg3 : Gl X y) (hm3 : X.mg y = none) (ha : EE X W a da)
    (hs : starEach [a, .Tuple [.Name x q, .Name y q2] kk tpos] X.env = (false, eval a X.env) :: starEach [.Tuple [.Name x q, .Name y q2] kk tpos] X.env := by rfl) (hs2 : starEach [.Tuple [.Name x q, .Name y q2] kk tpos] X.env = (false, eval (.Tuple [.Name x q, .Name y q2] kk tpos) X.env) :: starEach [] X.env := by rfl)
    (hs3 : starEach [.Name x q, .Name y q2] X.env = (false, eval (.Name x q) X.env) :: starEach [.Name y q2] X.env := by rfl) (hs4 : starEach [.Name y q2] X.env = (false, eval (.Name y q2) X.env) :: starEach [] X.env := by rfl)
    (hpl : (backTo pos (starEach [.Tuple [.Name x q, .Name y q2] kk tpos] X.env)).any (·.1) = false := by rfl) :
    EE X W (.Call (.Name "isinstance" p) [a, .Tuple [.Name x q, .Name y q2] kk tpos] [] pos) (dIsi2 t u da) := by
  have hv : bootBuiltins x = some (.type t.nm) := by subst hx; cases t <;> decide +kernel
  have hn : x ≠ "__name__" := by subst hx; cases t <;> decide
  have hd : (x == ("__debug__" : Str)) = false := by subst hx; cases t <;> decide
  have hv2 : bootBuiltins y = some (.type u.nm) := by subst hy; cases u <;> decide +kernel
  have hn2 : y ≠ "__name__" := by subst hy; cases u <;> decide
  have hd2 : (y == ("__debug__" : Str)) = false := by subst hy; cases u <;> decide
  refine PE.imp (pe_callB call_isiT hg hm (by decide +kernel) (pa_cons ha (pa_cons (pe_tup (pa_cons (pe_bltn (v := .ty t.nm) hg2 hm2 hv rfl hn hd) (pa_cons (pe_bltn (v := .ty u.nm) hg3 hm3 hv2 rfl hn2 hd2) pa_nil hs4) hs3)) pa_nil hs2) hs) (by decide) (by decide) hs hpl) fun σ H Q h => ?_
  obtain ⟨ι, env, S, s, er, p⟩ := h
  refine ⟨ι, env, S, s, er, (Post.bind (Rel' := Rp X.K) p).mono ?_⟩
  rintro v H1 ⟨ι1, dx, S1, e1, s1, r1, p1⟩
  unfold fIsi2 at p1
  split at p1
  · rename_i hr
    refine ⟨by show 2 ≤ sizeLine; decide, fun b hb => ?_⟩
    obtain ⟨tv, h1, h2⟩ := isi_ok2 t u (s1.new (o := .tup [.ty t.nm, .ty u.nm]) hb) (r1.ext (Ext.new hb)) hr
    exact ⟨v, b, [.ty t.nm, .ty u.nm], tv, [.type t.nm, .type u.nm], _, rfl, upd_same, .cons (.ty _) (.cons (.ty _) .nil), h1, h2, p1 ι1 _ _ (Ext.new hb) (s1.new hb) (.bl _)⟩
  · exact p1.elim
end
end
end Z
end

section
set_option Elab.async false
set_option linter.all false
set_option maxRecDepth 100000
set_option maxHeartbeats 1000000
namespace Z
noncomputable section
open PySem PySem.Spec PyProof.Rows L2
/-! ### repr of data -/
/-- this can be shown -/
def ShowOk (d : PyData) : Prop := d.showable = true ∧ d.shown.length ≤ sizeLine ∧ d.depth ≤ 60 ∧ d.hasDict = false
noncomputable instance (d : PyData) : Decidable (ShowOk d) := Classical.propDecidable _
def trO (f : D → Option PyData) : List D → Option (List PyData)
  | [] => some []
  | x :: xs => (f x).bind fun p => (trO f xs).map fun ps => p :: ps
/-- the data that d reads as, lists of the store within; at most n deep -/
def pyF : Nat → Sto → D → Option PyData
  | _, _, .non => some .none
  | _, _, .bl b => some (.bool b)
  | _, _, .int i => some (.int i)
  | _, _, .str x => some (.str x)
  | n + 1, S, .tup xs => (trO (pyF n S) xs).map .tuple
  | n + 1, S, .lst xs => (trO (pyF n S) xs).map .list
  | n + 1, S, .frz xs => (trO (pyF n S) xs).map .list
  | n + 1, S, .ref m => match S[m]? with
    | some (.lst xs) => (trO (pyF n S) xs).map .list
    | none => none
  | _, _, _ => none
theorem dpF_of {K : PySem.W.Frag} {H : Hp} {ι : Em} {S : Sto} (s : Sr K H ι S) : ∀ (n : Nat) {d : D} {v : V} {p : PyData}, Rp K H ι v d → pyF n S d = some p → Dp K H v p := by
  intro n
  have all : ∀ {n : Nat}, (∀ {d : D} {v : V} {p : PyData}, Rp K H ι v d → pyF n S d = some p → Dp K H v p) → ∀ {ds : List D} {vs : List V} {ps : List PyData}, Rps K H ι vs ds → trO (pyF n S) ds = some ps → DpAll K H vs ps := fun {n} ih => by
    intro ds
    induction ds with
    | nil => intro vs ps r e; cases r; cases e; exact .nil
    | cons d ds ih2 =>
      intro vs ps r e
      cases r with
      | cons r rs =>
        rw [trO] at e
        cases q : pyF n S d with
        | none => rw [q] at e; cases e
        | some p =>
          rw [q] at e
          cases q2 : trO (pyF n S) ds with
          | none => rw [q2] at e; cases e
          | some qs => rw [q2] at e; cases e; exact .cons (ih r q) (ih2 rs q2)
  have lst : ∀ {n : Nat}, (∀ {d : D} {v : V} {p : PyData}, Rp K H ι v d → pyF n S d = some p → Dp K H v p) → ∀ {d : D} {v : V} {p : PyData} {xs : List D}, Rp K H ι v d → lstOf S d = some xs → (trO (pyF n S) xs).map .list = some p → Dp K H v p := fun {n} ih d v p xs r e h => by
    obtain ⟨a, vs, rfl, hs, rs⟩ := lst_inv s r e
    cases q : trO (pyF n S) xs with
    | none => rw [q] at h; cases h
    | some ps => rw [q] at h; cases h; exact .lst hs (all ih rs q)
  induction n with
  | zero =>
    intro d v p r e
    cases d with
    | non => cases r; cases e; exact .non
    | bl b => cases r; cases e; exact .bl b
    | int i => cases r; cases e; exact .int i
    | str x => cases r; cases e; exact .str x
    | tup xs => cases e
    | lst xs => cases e
    | frz xs => cases e
    | ref m => cases e
    | err a b c d => cases e
  | succ n ih =>
    intro d v p r e
    cases d with
    | non => cases r; cases e; exact .non
    | bl b => cases r; cases e; exact .bl b
    | int i => cases r; cases e; exact .int i
    | str x => cases r; cases e; exact .str x
    | tup xs =>
      obtain ⟨a, vs, rfl, hs, rs⟩ := r.tup_inv
      rw [pyF] at e
      cases q : trO (pyF n S) xs with
      | none => rw [q] at e; cases e
      | some ps => rw [q] at e; cases e; exact .tup hs (all ih rs q)
    | lst xs => exact lst ih r rfl e
    | frz xs => exact lst ih r rfl e
    | ref m =>
      rw [pyF] at e
      split at e
      · rename_i xs h
        exact lst ih (xs := xs) r (by simp only [lstOf, h]) e
      · cases e
    | err a b c d => cases e
def fRepr (xs : List D) (S : Sto) : R D := match xs with
  | [x] => match pyF 60 S x with
    | some p => if ShowOk p then .ok (.str p.shown) S else .bad
    | none => .bad
  | _ => .bad
def rRepr (K : PySem.W.Frag) : List V → Hp → VK → Prop := fun xs H Q => ∃ x d, xs = [x] ∧ Dp K H x d ∧ ShowOk d ∧ Q (.str d.shown) H
section
variable {K : PySem.W.Frag} {X : Cx} {k : Nat}
theorem cr_repr (hr : RoomZ k X.A) : CallR X (.builtin "repr") (rRepr X.K) := by
  intro pins s σ H xs us Q I r h
  obtain ⟨x, d, rfl, hd, ⟨h1, h2, h3, h4⟩, q⟩ := h
  obtain ⟨u, rfl, ru⟩ := vals1 r
  have un := hr.r.un
  have big : ∀ (a : Addr), u = .ref a → wpAny (model X.prog X.w) X.A (call (.builtin "repr") [u]) (EP X pins σ Q) X.xe s := fun a e => by
    subst e
    obtain ⟨as, rd⟩ := Dp.reads I d x _ hd ru
    exact repr_of_reads' rd h1 (PyData.noDict_hsm h4) hr.gd (by omega) (fun _ _ e => e) (fun h' u tk hk => ⟨.str d.shown, H, I.kept (t' := tk) hk, ⟨_, rfl⟩, q⟩) h2
  cases hd with
  | non =>
    cases ru
    exact PySem.P.repr_of_none ⟨.str "None", H, I.tok _, ⟨_, rfl⟩, by simpa [PyData.shown] using q⟩
  | bl b =>
    cases ru
    exact PySem.P.repr_of_bool ⟨.str (if b then "True" else "False"), H, I.tok _, ⟨_, rfl⟩, by simpa [PyData.shown] using q⟩
  | int i =>
    obtain ⟨t, rfl⟩ := ru
    exact PySem.P.repr_of_int (by simpa [PyData.showable] using h1) ⟨.str (toString i), H, I.tok _, ⟨_, rfl⟩, by simpa [PyData.shown] using q⟩
  | str z =>
    obtain ⟨t, rfl⟩ := ru
    exact PySem.P.repr_of_str ⟨.str (reprText z), H, I.tok _, ⟨_, rfl⟩, by simpa [PyData.shown] using q⟩ (by simpa [PyData.shown] using h2)
  | lst h hs => exact big _ ru
  | tup h hs => exact big _ ru
theorem sRepr : CbS K (rRepr K) fRepr := by
  intro mg W σ ι H S xs ds Q s r p
  unfold fRepr at p
  split at p
  · obtain ⟨x, rfl, r0⟩ := rps1 r
    split at p
    · rename_i d e
      split at p
      · rename_i h
        exact ⟨x, d, rfl, dpF_of s 60 r0 e, h, p.ret s (.str _)⟩
      · exact p.elim
    · exact p.elim
  · exact p.elim
end
end
end Z
end

section
set_option Elab.async false
set_option linter.all false
set_option maxRecDepth 100000
set_option maxHeartbeats 1000000
namespace Z
noncomputable section
open PySem PySem.Spec PyProof.Rows L2
/-! all, any of generator expressions whose elements leave the store as it is -/
theorem geGo_run {sb : Bool} {g : Sto → Prop} {t : Tg} {c : DenT} {elt : Den} {env : Env} {S : Sto} (hg : g S) (q p : D → Bool) : ∀ xs : List D, (∀ x ∈ xs, ∃ e, t.run x env = some e ∧ c e S = .ok (q x) S ∧ (q x = true → elt e S = .ok (.bl (p x)) S)) →
    geGo sb g t c elt env xs S = .ok (.bl (if xs.any (fun x => q x && (p x == sb)) = true then sb else !sb)) S
  | [], _ => by rw [geGo, if_pos hg]; simp
  | x :: xs, h => by
    obtain ⟨e, h1, h2, h3⟩ := h x List.mem_cons_self
    have ih := geGo_run (sb := sb) hg q p xs fun y hy => h y (List.mem_cons_of_mem _ hy)
    rw [geGo, if_pos hg, h1]
    simp only [h2]
    cases hq : q x with
    | false => simp only [Bool.false_eq_true, if_false, ih, List.any_cons, hq, Bool.false_and, Bool.false_or]
    | true =>
      simp only [if_true, h3 hq]
      by_cases hp : p x = sb
      · simp only [hp, if_true, List.any_cons, hq, beq_self_eq_true, Bool.true_and, Bool.true_or]
      · have hp2 : (p x == sb) = false := by simpa using hp
        simp only [if_neg hp, ih, List.any_cons, hq, hp2, Bool.and_false, Bool.false_or]
theorem geGo_all {g : Sto → Prop} {t : Tg} {elt : Den} {env : Env} {S : Sto} (hg : g S) (p : D → Bool) (xs : List D) (h : ∀ x ∈ xs, ∃ e, t.run x env = some e ∧ elt e S = .ok (.bl (p x)) S) : geGo false g t tYesD elt env xs S = .ok (.bl (xs.all p)) S := by
  rw [geGo_run (c := tYesD) hg (fun _ => true) p xs fun x hx => let ⟨e, h1, h2⟩ := h x hx; ⟨e, h1, rfl, fun _ => h2⟩]
  congr 2
  induction xs with
  | nil => rfl
  | cons x xs ih =>
    have ih := ih fun y hy => h y (List.mem_cons_of_mem _ hy)
    simp only [Bool.true_and, Bool.not_false] at ih ⊢
    cases hp : p x <;> simp_all
theorem geGo_any {g : Sto → Prop} {t : Tg} {elt : Den} {env : Env} {S : Sto} (hg : g S) (p : D → Bool) (xs : List D) (h : ∀ x ∈ xs, ∃ e, t.run x env = some e ∧ elt e S = .ok (.bl (p x)) S) : geGo true g t tYesD elt env xs S = .ok (.bl (xs.any p)) S := by
  rw [geGo_run (c := tYesD) hg (fun _ => true) p xs fun x hx => let ⟨e, h1, h2⟩ := h x hx; ⟨e, h1, rfl, fun _ => h2⟩]
  congr 2
  induction xs with
  | nil => rfl
  | cons x xs ih =>
    have ih := ih fun y hy => h y (List.mem_cons_of_mem _ hy)
    simp only [Bool.true_and, Bool.not_true] at ih ⊢
    cases hp : p x <;> simp_all
end
end Z
end

section
set_option Elab.async false
set_option linter.all false
set_option maxRecDepth 100000
set_option maxHeartbeats 4000000
namespace K02
open PySem PySem.Spec PyProof.Rows L2 Z
def topS (i : Nat) : Stmt := PySem.Challenge.pw_bellrest_k02_judges_of_values.main.body.getD i (.Pass ⟨0, 0, 0, 0⟩)
abbrev sis_whole : Stmt := topS 2
abbrev Nis_whole : List Str := ["value"]
theorem scis_whole : FnScope Nis_whole ["value"] (defScope sis_whole) := ⟨rfl, rfl, rfl, by decide +kernel, rfl, by decide +kernel, by decide +kernel⟩
abbrev sis_tuple_of : Stmt := topS 3
abbrev Nis_tuple_of : List Str := ["size", "value"]
theorem scis_tuple_of : FnScope Nis_tuple_of ["size", "value"] (defScope sis_tuple_of) := ⟨rfl, rfl, rfl, by decide +kernel, rfl, by decide +kernel, by decide +kernel⟩
abbrev sis_moment : Stmt := topS 5
abbrev Nis_moment : List Str := ["value", "numerator", "denominator"]
theorem scis_moment : FnScope Nis_moment ["value"] (defScope sis_moment) := ⟨rfl, rfl, rfl, by decide +kernel, rfl, by decide +kernel, by decide +kernel⟩
abbrev sis_edge : Stmt := topS 7
abbrev Nis_edge : List Str := ["value", "limit", "reach"]
theorem scis_edge : FnScope Nis_edge ["value"] (defScope sis_edge) := ⟨rfl, rfl, rfl, by decide +kernel, rfl, by decide +kernel, by decide +kernel⟩
abbrev sis_span : Stmt := topS 8
abbrev Nis_span : List Str := ["value", "low", "high"]
theorem scis_span : FnScope Nis_span ["value"] (defScope sis_span) := ⟨rfl, rfl, rfl, by decide +kernel, rfl, by decide +kernel, by decide +kernel⟩
abbrev shas_moment : Stmt := topS 9
abbrev Nhas_moment : List Str := ["low", "high"]
theorem schas_moment : FnScope Nhas_moment ["low", "high"] (defScope shas_moment) := ⟨rfl, rfl, rfl, by decide +kernel, rfl, by decide +kernel, by decide +kernel⟩
abbrev sis_cap : Stmt := topS 11
abbrev Nis_cap : List Str := ["value"]
theorem scis_cap : FnScope Nis_cap ["value"] (defScope sis_cap) := ⟨rfl, rfl, rfl, by decide +kernel, rfl, by decide +kernel, by decide +kernel⟩
abbrev sis_table : Stmt := topS 12
abbrev Nis_table : List Str := ["value", "row"]
theorem scis_table : FnScope Nis_table ["value"] (defScope sis_table) := ⟨rfl, rfl, rfl, by decide +kernel, rfl, by decide +kernel, by decide +kernel⟩
abbrev sis_table_row : Stmt := topS 13
abbrev Nis_table_row : List Str := ["size", "value", "cap"]
theorem scis_table_row : FnScope Nis_table_row ["size", "value"] (defScope sis_table_row) := ⟨rfl, rfl, rfl, by decide +kernel, rfl, by decide +kernel, by decide +kernel⟩
abbrev sis_readings : Stmt := topS 14
abbrev Nis_readings : List Str := ["clocks", "value", "reading"]
theorem scis_readings : FnScope Nis_readings ["clocks", "value"] (defScope sis_readings) := ⟨rfl, rfl, rfl, by decide +kernel, rfl, by decide +kernel, by decide +kernel⟩
abbrev s_law_box : Stmt := topS 16
abbrev N_law_box : List Str := ["script", "great", "state", "cell"]
theorem sc_law_box : FnScope N_law_box ["script"] (defScope s_law_box) := ⟨rfl, rfl, rfl, by decide +kernel, rfl, by decide +kernel, by decide +kernel⟩
abbrev s_law_draw : Stmt := topS 17
abbrev N_law_draw : List Str := ["box", "size", "digit", "mixed"]
theorem sc_law_draw : FnScope N_law_draw ["box", "size"] (defScope s_law_draw) := ⟨rfl, rfl, rfl, by decide +kernel, rfl, by decide +kernel, by decide +kernel⟩
abbrev s_law_pick : Stmt := topS 18
abbrev N_law_pick : List Str := ["box", "row"]
theorem sc_law_pick : FnScope N_law_pick ["box", "row"] (defScope s_law_pick) := ⟨rfl, rfl, rfl, by decide +kernel, rfl, by decide +kernel, by decide +kernel⟩
abbrev s_law_gcd : Stmt := topS 19
abbrev N_law_gcd : List Str := ["first", "second"]
theorem sc_law_gcd : FnScope N_law_gcd ["first", "second"] (defScope s_law_gcd) := ⟨rfl, rfl, rfl, by decide +kernel, rfl, by decide +kernel, by decide +kernel⟩
abbrev s_law_wide : Stmt := topS 20
abbrev N_law_wide : List Str := ["box"]
theorem sc_law_wide : FnScope N_law_wide ["box"] (defScope s_law_wide) := ⟨rfl, rfl, rfl, by decide +kernel, rfl, by decide +kernel, by decide +kernel⟩
abbrev s_law_whole : Stmt := topS 21
abbrev N_law_whole : List Str := ["one"]
theorem sc_law_whole : FnScope N_law_whole ["one"] (defScope s_law_whole) := ⟨rfl, rfl, rfl, by decide +kernel, rfl, by decide +kernel, by decide +kernel⟩
abbrev s_law_moment : Stmt := topS 22
abbrev N_law_moment : List Str := ["one"]
theorem sc_law_moment : FnScope N_law_moment ["one"] (defScope s_law_moment) := ⟨rfl, rfl, rfl, by decide +kernel, rfl, by decide +kernel, by decide +kernel⟩
abbrev s_law_edge : Stmt := topS 23
abbrev N_law_edge : List Str := ["one"]
theorem sc_law_edge : FnScope N_law_edge ["one"] (defScope s_law_edge) := ⟨rfl, rfl, rfl, by decide +kernel, rfl, by decide +kernel, by decide +kernel⟩
abbrev s_law_cap : Stmt := topS 24
abbrev N_law_cap : List Str := ["one"]
theorem sc_law_cap : FnScope N_law_cap ["one"] (defScope s_law_cap) := ⟨rfl, rfl, rfl, by decide +kernel, rfl, by decide +kernel, by decide +kernel⟩
abbrev s_law_span : Stmt := topS 25
abbrev N_law_span : List Str := ["one"]
theorem sc_law_span : FnScope N_law_span ["one"] (defScope s_law_span) := ⟨rfl, rfl, rfl, by decide +kernel, rfl, by decide +kernel, by decide +kernel⟩
abbrev s_law_row : Stmt := topS 26
abbrev N_law_row : List Str := ["one", "size", "cap"]
theorem sc_law_row : FnScope N_law_row ["one", "size"] (defScope s_law_row) := ⟨rfl, rfl, rfl, by decide +kernel, rfl, by decide +kernel, by decide +kernel⟩
abbrev s_law_table : Stmt := topS 27
abbrev N_law_table : List Str := ["one", "row"]
theorem sc_law_table : FnScope N_law_table ["one"] (defScope s_law_table) := ⟨rfl, rfl, rfl, by decide +kernel, rfl, by decide +kernel, by decide +kernel⟩
abbrev s_law_readings : Stmt := topS 28
abbrev N_law_readings : List Str := ["clocks", "one", "item"]
theorem sc_law_readings : FnScope N_law_readings ["clocks", "one"] (defScope s_law_readings) := ⟨rfl, rfl, rfl, by decide +kernel, rfl, by decide +kernel, by decide +kernel⟩
abbrev s_law_good_moment : Stmt := topS 29
abbrev N_law_good_moment : List Str := ["box", "choice", "top", "bottom", "common"]
theorem sc_law_good_moment : FnScope N_law_good_moment ["box"] (defScope s_law_good_moment) := ⟨rfl, rfl, rfl, by decide +kernel, rfl, by decide +kernel, by decide +kernel⟩
abbrev s_law_good_span : Stmt := topS 30
abbrev N_law_good_span : List Str := ["box", "low", "reach", "choice", "high"]
theorem sc_law_good_span : FnScope N_law_good_span ["box"] (defScope s_law_good_span) := ⟨rfl, rfl, rfl, by decide +kernel, rfl, by decide +kernel, by decide +kernel⟩
abbrev s_law_good_cap : Stmt := topS 31
abbrev N_law_good_cap : List Str := ["box", "limit"]
theorem sc_law_good_cap : FnScope N_law_good_cap ["box"] (defScope s_law_good_cap) := ⟨rfl, rfl, rfl, by decide +kernel, rfl, by decide +kernel, by decide +kernel⟩
abbrev s_law_good : Stmt := topS 32
abbrev N_law_good : List Str := ["box", "form", "clocks", "limit", "k", "rows", "i"]
theorem sc_law_good : FnScope N_law_good ["box", "form", "clocks"] (defScope s_law_good) := ⟨rfl, rfl, rfl, by decide +kernel, rfl, by decide +kernel, by decide +kernel⟩
abbrev s_law_odd : Stmt := topS 33
abbrev N_law_odd : List Str := ["box", "row"]
theorem sc_law_odd : FnScope N_law_odd ["box"] (defScope s_law_odd) := ⟨rfl, rfl, rfl, by decide +kernel, rfl, by decide +kernel, by decide +kernel⟩
abbrev s_law_bent : Stmt := topS 34
abbrev N_law_bent : List Str := ["box", "value", "nested", "place", "row", "choice"]
theorem sc_law_bent : FnScope N_law_bent ["box", "value"] (defScope s_law_bent) := ⟨rfl, rfl, rfl, by decide +kernel, rfl, by decide +kernel, by decide +kernel⟩
abbrev s_law_told : Stmt := topS 35
abbrev N_law_told : List Str := ["actual", "due"]
theorem sc_law_told : FnScope N_law_told ["actual", "due"] (defScope s_law_told) := ⟨rfl, rfl, rfl, by decide +kernel, rfl, by decide +kernel, by decide +kernel⟩
abbrev s_law_judged : Stmt := topS 36
abbrev N_law_judged : List Str := ["clocks", "value", "many"]
theorem sc_law_judged : FnScope N_law_judged ["clocks", "value"] (defScope s_law_judged) := ⟨rfl, rfl, rfl, by decide +kernel, rfl, by decide +kernel, by decide +kernel⟩
abbrev slaw : Stmt := topS 37
abbrev Nlaw : List Str := ["script", "box", "clocks", "value", "k", "before"]
theorem sclaw : FnScope Nlaw ["script"] (defScope slaw) := ⟨rfl, rfl, rfl, by decide +kernel, rfl, by decide +kernel, by decide +kernel⟩
/-! ### what the defs compute -/
noncomputable def Fis_whole : FD := fnF 1 (sRet (dAnd (dIsi .int (dVar 0)) (dNot (dIsi .bool (dVar 0)))))
noncomputable def Fis_tuple_of : FD := fnF 2 (sRet (dAnd (dIsi .tup (dVar 1)) (bin (fEq false) (dCB fLen (aCons (dVar 1) (aNil))) (dVar 0))))
noncomputable def Fis_moment : FD := fnF 3 (sSeq (sIf (tNot' (tB' (dCall (arity 2 Fis_tuple_of) [] (aCons (dC (.int 2)) (aCons (dVar 0) (aNil)))))) (sRet (dC (.bl false))) (sNil)) (sSeq (sAsg (gT [gN 1, gN 2]) (dVar 0)) (sSeq (sIf (tNot' (tAnd' (tB' (dCall (arity 1 Fis_whole) [] (aCons (dVar 1) (aNil)))) (tB' (dCall (arity 1 Fis_whole) [] (aCons (dVar 2) (aNil)))))) (sRet (dC (.bl false))) (sNil)) (sRet (dAnd (bin fGe (dVar 1) (dC (.int 0))) (dAnd (bin fGe (dVar 2) (dC (.int 1))) (bin (fEq false) (dCB fGcd (aCons (dVar 1) (aCons (dVar 2) (aNil)))) (dC (.int 1)))))))))
noncomputable def Fis_edge : FD := fnF 3 (sSeq (sIf (tNot' (tB' (dCall (arity 2 Fis_tuple_of) [] (aCons (dC (.int 2)) (aCons (dVar 0) (aNil)))))) (sRet (dC (.bl false))) (sNil)) (sSeq (sAsg (gT [gN 1, gN 2]) (dVar 0)) (sRet (dAnd (dCall (arity 1 Fis_whole) [] (aCons (dVar 1) (aNil))) (dAnd (dCall (arity 1 Fis_whole) [] (aCons (dVar 2) (aNil))) (bin (fInT false) (dVar 2) (dTup (aCons (dC (.int 0)) (aCons (dC (.int 1)) (aNil))))))))))
noncomputable def Fhas_moment : FD := fnF 2 (sSeq (sIf (tOr' (tB' (dIsN (dVar 1))) (tB' (bin fGt (bin fIx (dVar 1) (dC (.int 0))) (bin fIx (dVar 0) (dC (.int 0)))))) (sRet (dC (.bl true))) (sNil)) (sRet (dAnd (bin (fEq false) (bin fIx (dVar 1) (dC (.int 0))) (bin fIx (dVar 0) (dC (.int 0)))) (dAnd (bin (fEq false) (bin fIx (dVar 1) (dC (.int 1))) (dC (.int 1))) (bin (fEq false) (bin fIx (dVar 0) (dC (.int 1))) (dC (.int 1)))))))
noncomputable def Fis_span : FD := fnF 3 (sSeq (sIf (tNot' (tB' (dCall (arity 2 Fis_tuple_of) [] (aCons (dC (.int 2)) (aCons (dVar 0) (aNil)))))) (sRet (dC (.bl false))) (sNil)) (sSeq (sAsg (gT [gN 1, gN 2]) (dVar 0)) (sSeq (sIf (tNot' (tAnd' (tB' (dCall (arity 1 Fis_edge) [] (aCons (dVar 1) (aNil)))) (tB' (bin fGe (bin fIx (dVar 1) (dC (.int 0))) (dC (.int 0)))))) (sRet (dC (.bl false))) (sNil)) (sRet (dOr (dIsN (dVar 2)) (dAnd (dCall (arity 1 Fis_edge) [] (aCons (dVar 2) (aNil))) (dCall (arity 2 Fhas_moment) [] (aCons (dVar 1) (aCons (dVar 2) (aNil))))))))))
noncomputable def Fis_cap : FD := fnF 1 (sRet (dOr (dIsN (dVar 0)) (dCall (arity 1 Fis_edge) [] (aCons (dVar 0) (aNil)))))
noncomputable def Fis_table_row : FD := fnF 3 (sRet (dAnd (dCall (arity 2 Fis_tuple_of) [] (aCons (dVar 0) (aCons (dVar 1) (aNil)))) (dGe false (iAny (dVar 1)) [2] (gN 2) (tYesD) (dCall (arity 1 Fis_cap) [] (aCons (dVar 2) (aNil))))))
noncomputable def Fis_table : FD := fnF 2 (sSeq (sIf (tNot' (tAnd' (tB' (dIsi .tup (dVar 0))) (tB' (bin fGe (dCB fLen (aCons (dVar 0) (aNil))) (dC (.int 2)))))) (sRet (dC (.bl false))) (sNil)) (sRet (dGe false (iAny (dVar 0)) [1] (gN 1) (tYesD) (dCall (arity 2 Fis_table_row) [] (aCons (dCB fLen (aCons (dVar 0) (aNil))) (aCons (dVar 1) (aNil)))))))
noncomputable def Fis_readings : FD := fnF 3 (sRet (dAnd (dCall (arity 2 Fis_tuple_of) [] (aCons (dVar 0) (aCons (dVar 1) (aNil)))) (dGe false (iAny (dVar 1)) [2] (gN 2) (tYesD) (dCall (arity 1 Fis_moment) [] (aCons (dVar 2) (aNil))))))
noncomputable def F_law_box : FD := fnF 4 (sSeq (sSet 1 (dLst true (aNil))) (sSeq (sSet 2 (bin fPlus (dC (.int 101)) (dCB fLen (aCons (dSl false (dVar 0) (oNone) (oSome (dC (.int 63)))) (aNil))))) (sSeq (sFor (iAny (dSl false (dVar 0) (oNone) (oSome (dC (.int 63))))) (gN 3) (sIf (tB' (bin fGe (dVar 3) (bin fPow (dC (.int 10)) (dC (.int 18))))) (sDrop (dBM .list fApp (dVar 1) (aCons (dVar 3) (aNil)))) (sSet 2 (bin fMod (dCB fIntT (aCons (bin fPlus (bin fPlus (bin fMul (dVar 2) (dC (.int 48271))) (bin fMul (dVar 3) (dC (.int 69621)))) (dC (.int 7))) (aNil))) (dC (.int 2147483647)))))) (sSeq (sDrop (dBM0 .list fRevM (dVar 1))) (sRet (dLst true (aCons (dC (.int 0)) (aCons (dVar 1) (aCons (dVar 2) (aCons (dC (.int 0)) (aNil)))))))))))
noncomputable def F_law_draw : FD := fnF 4 (sSeq (sIf (tAnd' (tB' (bin fLt (bin fIx (dVar 0) (dC (.int 0))) (dC (.int 1)))) (tB' (bin (fEq true) (bin fIx (dVar 0) (dC (.int 1))) (dLst false (aNil))))) (sPut (dVar 0) (dC (.int 0)) (dBM0 .list fPop (bin fIx (dVar 0) (dC (.int 1))))) (sNil)) (sSeq (sIf (tB' (bin fGt (bin fIx (dVar 0) (dC (.int 0))) (dC (.int 0)))) (sSeq (sSet 2 (bin fMod (dCB fIntT (aCons (bin fIx (dVar 0) (dC (.int 0))) (aNil))) (dVar 1))) (sSeq (sPut (dVar 0) (dC (.int 0)) (bin fDiv (bin fIx (dVar 0) (dC (.int 0))) (dVar 1))) (sRet (dVar 2)))) (sNil)) (sSeq (sPut (dVar 0) (dC (.int 3)) (bin fPlus (bin fIx (dVar 0) (dC (.int 3))) (dC (.int 1)))) (sSeq (sPut (dVar 0) (dC (.int 2)) (bin fMod (dCB fIntT (aCons (bin fPlus (bin fPlus (bin fMul (bin fIx (dVar 0) (dC (.int 2))) (dC (.int 48271))) (bin fMul (bin fIx (dVar 0) (dC (.int 3))) (dC (.int 69621)))) (dC (.int 5))) (aNil))) (dC (.int 2147483647)))) (sSeq (sSet 3 (bin fMod (dCB fIntT (aCons (bin fPlus (bin fPlus (bin fMul (bin fIx (dVar 0) (dC (.int 2))) (dC (.int 39373))) (bin fMul (bin fIx (dVar 0) (dC (.int 3))) (dC (.int 40692)))) (dC (.int 3))) (aNil))) (dC (.int 2147483399)))) (sRet (bin fMod (bin fDiv (dVar 3) (dC (.int 32))) (dVar 1))))))))
noncomputable def F_law_pick : FD := fnF 2 (sRet (bin fIx (dVar 1) (dCall (arity 2 F_law_draw) [] (aCons (dVar 0) (aCons (dCB fLen (aCons (dVar 1) (aNil))) (aNil))))))
noncomputable def F_law_gcd : FD := fnF 2 (sSeq (sWhile 500 (tB' (bin fGt (dVar 1) (dC (.int 0)))) (sPar 0 1 (aCons (dVar 1) (aCons (bin fMod (dCB fIntT (aCons (dVar 0) (aNil))) (dVar 1)) (aNil))))) (sRet (dVar 0)))
noncomputable def F_law_wide : FD := fnF 1 (sRet (bin fPlus (bin fMul (dCall (arity 2 F_law_draw) [] (aCons (dVar 0) (aCons (bin fPow (dC (.int 10)) (dC (.int 6))) (aNil)))) (bin fPow (dC (.int 10)) (dC (.int 6)))) (dCall (arity 2 F_law_draw) [] (aCons (dVar 0) (aCons (bin fPow (dC (.int 10)) (dC (.int 6))) (aNil))))))
noncomputable def F_law_whole : FD := fnF 1 (sRet (dAnd (dIsi .int (dVar 0)) (dNot (dIsi .bool (dVar 0)))))
noncomputable def F_law_moment : FD := fnF 1 (sSeq (sIf (tOr' (tNot' (tB' (dIsi .tup (dVar 0)))) (tB' (bin (fEq true) (dCB fLen (aCons (dVar 0) (aNil))) (dC (.int 2))))) (sRet (dC (.bl false))) (sNil)) (sSeq (sIf (tOr' (tNot' (tB' (dCall (arity 1 F_law_whole) [] (aCons (bin fIx (dVar 0) (dC (.int 0))) (aNil))))) (tNot' (tB' (dCall (arity 1 F_law_whole) [] (aCons (bin fIx (dVar 0) (dC (.int 1))) (aNil)))))) (sRet (dC (.bl false))) (sNil)) (sRet (dAnd (bin fGe (bin fIx (dVar 0) (dC (.int 0))) (dC (.int 0))) (dAnd (bin fGe (bin fIx (dVar 0) (dC (.int 1))) (dC (.int 1))) (bin (fEq false) (dCall (arity 2 F_law_gcd) [] (aCons (bin fIx (dVar 0) (dC (.int 0))) (aCons (bin fIx (dVar 0) (dC (.int 1))) (aNil)))) (dC (.int 1))))))))
noncomputable def F_law_edge : FD := fnF 1 (sSeq (sIf (tOr' (tNot' (tB' (dIsi .tup (dVar 0)))) (tB' (bin (fEq true) (dCB fLen (aCons (dVar 0) (aNil))) (dC (.int 2))))) (sRet (dC (.bl false))) (sNil)) (sSeq (sIf (tOr' (tNot' (tB' (dCall (arity 1 F_law_whole) [] (aCons (bin fIx (dVar 0) (dC (.int 0))) (aNil))))) (tNot' (tB' (dCall (arity 1 F_law_whole) [] (aCons (bin fIx (dVar 0) (dC (.int 1))) (aNil)))))) (sRet (dC (.bl false))) (sNil)) (sRet (dOr (bin (fEq false) (bin fIx (dVar 0) (dC (.int 1))) (dC (.int 0))) (bin (fEq false) (bin fIx (dVar 0) (dC (.int 1))) (dC (.int 1)))))))
noncomputable def F_law_cap : FD := fnF 1 (sRet (dOr (dIsN (dVar 0)) (dCall (arity 1 F_law_edge) [] (aCons (dVar 0) (aNil)))))
noncomputable def F_law_span : FD := fnF 1 (sSeq (sIf (tOr' (tNot' (tB' (dIsi .tup (dVar 0)))) (tB' (bin (fEq true) (dCB fLen (aCons (dVar 0) (aNil))) (dC (.int 2))))) (sRet (dC (.bl false))) (sNil)) (sSeq (sIf (tOr' (tNot' (tB' (dCall (arity 1 F_law_edge) [] (aCons (bin fIx (dVar 0) (dC (.int 0))) (aNil))))) (tB' (bin fLt (bin fIx (bin fIx (dVar 0) (dC (.int 0))) (dC (.int 0))) (dC (.int 0))))) (sRet (dC (.bl false))) (sNil)) (sSeq (sIf (tB' (dIsN (bin fIx (dVar 0) (dC (.int 1))))) (sRet (dC (.bl true))) (sNil)) (sSeq (sIf (tNot' (tB' (dCall (arity 1 F_law_edge) [] (aCons (bin fIx (dVar 0) (dC (.int 1))) (aNil))))) (sRet (dC (.bl false))) (sNil)) (sSeq (sIf (tB' (bin (fEq false) (bin fIx (bin fIx (dVar 0) (dC (.int 1))) (dC (.int 0))) (bin fIx (bin fIx (dVar 0) (dC (.int 0))) (dC (.int 0))))) (sRet (dAnd (bin (fEq false) (bin fIx (bin fIx (dVar 0) (dC (.int 0))) (dC (.int 1))) (dC (.int 1))) (bin (fEq false) (bin fIx (bin fIx (dVar 0) (dC (.int 1))) (dC (.int 1))) (dC (.int 1))))) (sNil)) (sRet (bin fGt (bin fIx (bin fIx (dVar 0) (dC (.int 1))) (dC (.int 0))) (bin fIx (bin fIx (dVar 0) (dC (.int 0))) (dC (.int 0))))))))))
noncomputable def F_law_row : FD := fnF 3 (sSeq (sIf (tOr' (tNot' (tB' (dIsi .tup (dVar 0)))) (tB' (bin (fEq true) (dCB fLen (aCons (dVar 0) (aNil))) (dVar 1)))) (sRet (dC (.bl false))) (sNil)) (sRet (dCB fAll (aCons (dLc false (iAny (dVar 0)) [2] (gN 2) (tYesD) (dCall (arity 1 F_law_cap) [] (aCons (dVar 2) (aNil)))) aNil))))
noncomputable def F_law_table : FD := fnF 2 (sSeq (sIf (tOr' (tNot' (tB' (dIsi .tup (dVar 0)))) (tB' (bin fLt (dCB fLen (aCons (dVar 0) (aNil))) (dC (.int 2))))) (sRet (dC (.bl false))) (sNil)) (sRet (dCB fAll (aCons (dLc false (iAny (dVar 0)) [1] (gN 1) (tYesD) (dCall (arity 2 F_law_row) [] (aCons (dVar 1) (aCons (dCB fLen (aCons (dVar 0) (aNil))) (aNil))))) aNil))))
noncomputable def F_law_readings : FD := fnF 3 (sSeq (sIf (tOr' (tNot' (tB' (dIsi .tup (dVar 1)))) (tB' (bin (fEq true) (dCB fLen (aCons (dVar 1) (aNil))) (dVar 0)))) (sRet (dC (.bl false))) (sNil)) (sRet (dCB fAll (aCons (dLc false (iAny (dVar 1)) [2] (gN 2) (tYesD) (dCall (arity 1 F_law_moment) [] (aCons (dVar 2) (aNil)))) aNil))))
noncomputable def F_law_good_moment : FD := fnF 5 (sSeq (sSet 1 (dCall (arity 2 F_law_draw) [] (aCons (dVar 0) (aCons (dC (.int 6)) (aNil))))) (sSeq (sIf (tB' (bin (fEq false) (dVar 1) (dC (.int 0)))) (sRet (dTup (aCons (dC (.int 0)) (aCons (dC (.int 1)) (aNil))))) (sNil)) (sSeq (sIf (tB' (bin (fEq false) (dVar 1) (dC (.int 1)))) (sRet (dTup (aCons (dCall (arity 2 F_law_draw) [] (aCons (dVar 0) (aCons (dC (.int 100)) (aNil)))) (aCons (dC (.int 1)) (aNil))))) (sNil)) (sSeq (sSet 2 (dCall (arity 2 F_law_draw) [] (aCons (dVar 0) (aCons (dC (.int 41)) (aNil))))) (sSeq (sSet 3 (bin fPlus (dC (.int 1)) (dCall (arity 2 F_law_draw) [] (aCons (dVar 0) (aCons (dC (.int 12)) (aNil)))))) (sSeq (sIf (tB' (bin (fEq false) (dVar 1) (dC (.int 2)))) (sSeq (sSet 2 (dCall (arity 1 F_law_wide) [] (aCons (dVar 0) (aNil)))) (sSet 3 (dCB fMax2 (aCons (dC (.int 1)) (aCons (dCall (arity 1 F_law_wide) [] (aCons (dVar 0) (aNil))) (aNil)))))) (sNil)) (sSeq (sIf (tB' (bin (fEq false) (dVar 1) (dC (.int 3)))) (sRet (dTup (aCons (dVar 2) (aCons (dVar 3) (aNil))))) (sNil)) (sSeq (sSet 4 (dCall (arity 2 F_law_gcd) [] (aCons (dVar 2) (aCons (dVar 3) (aNil))))) (sRet (dTup (aCons (bin fDiv (dVar 2) (dVar 4)) (aCons (bin fDiv (dVar 3) (dVar 4)) (aNil)))))))))))))
noncomputable def F_law_good_span : FD := fnF 5 (sSeq (sSet 1 (dCall (arity 2 F_law_draw) [] (aCons (dVar 0) (aCons (dCall (arity 2 F_law_pick) [] (aCons (dVar 0) (aCons (dLst false (aCons (dC (.int 2)) (aCons (dC (.int 5)) (aCons (dC (.int 100)) (aNil))))) (aNil)))) (aNil))))) (sSeq (sSet 2 (dCall (arity 2 F_law_draw) [] (aCons (dVar 0) (aCons (dC (.int 2)) (aNil))))) (sSeq (sSet 3 (dCall (arity 2 F_law_draw) [] (aCons (dVar 0) (aCons (dC (.int 4)) (aNil))))) (sSeq (sIf (tB' (bin (fEq false) (dVar 3) (dC (.int 0)))) (sRet (dTup (aCons (dTup (aCons (dVar 1) (aCons (dVar 2) (aNil)))) (aCons (dC .non) (aNil))))) (sNil)) (sSeq (sIf (tB' (bin (fEq false) (dVar 3) (dC (.int 1)))) (sRet (dTup (aCons (dTup (aCons (dVar 1) (aCons (dVar 2) (aNil)))) (aCons (dTup (aCons (dVar 1) (aCons (dCall (arity 2 F_law_draw) [] (aCons (dVar 0) (aCons (dC (.int 2)) (aNil)))) (aNil)))) (aNil))))) (sNil)) (sSeq (sSet 4 (dCB fMin2 (aCons (dC (.int 99)) (aCons (bin fPlus (bin fSub (dVar 1) (dC (.int 1))) (dCall (arity 2 F_law_draw) [] (aCons (dVar 0) (aCons (dCall (arity 2 F_law_pick) [] (aCons (dVar 0) (aCons (dLst false (aCons (dC (.int 3)) (aCons (dC (.int 100)) (aNil)))) (aNil)))) (aNil))))) (aNil))))) (sRet (dTup (aCons (dTup (aCons (dVar 1) (aCons (dVar 2) (aNil)))) (aCons (dTup (aCons (dVar 4) (aCons (dCall (arity 2 F_law_draw) [] (aCons (dVar 0) (aCons (dC (.int 2)) (aNil)))) (aNil)))) (aNil)))))))))))
noncomputable def F_law_good_cap : FD := fnF 2 (sSeq (sIf (tB' (bin (fEq false) (dCall (arity 2 F_law_draw) [] (aCons (dVar 0) (aCons (dC (.int 3)) (aNil)))) (dC (.int 0)))) (sRet (dC .non)) (sNil)) (sSeq (sSet 1 (bin fSub (dCall (arity 2 F_law_draw) [] (aCons (dVar 0) (aCons (dC (.int 199)) (aNil)))) (dC (.int 99)))) (sRet (dTup (aCons (dVar 1) (aCons (dCall (arity 2 F_law_draw) [] (aCons (dVar 0) (aCons (dC (.int 2)) (aNil)))) (aNil)))))))
noncomputable def F_law_good : FD := fnF 7 (sSeq (sIf (tB' (bin (fEq false) (dVar 1) (dC (.int 0)))) (sRet (dCall (arity 1 F_law_good_moment) [] (aCons (dVar 0) (aNil)))) (sNil)) (sSeq (sIf (tB' (bin (fEq false) (dVar 1) (dC (.int 1)))) (sSeq (sSet 3 (bin fSub (dCall (arity 2 F_law_draw) [] (aCons (dVar 0) (aCons (dC (.int 199)) (aNil)))) (dC (.int 99)))) (sRet (dTup (aCons (dVar 3) (aCons (dCall (arity 2 F_law_draw) [] (aCons (dVar 0) (aCons (dC (.int 2)) (aNil)))) (aNil)))))) (sNil)) (sSeq (sIf (tB' (bin (fEq false) (dVar 1) (dC (.int 2)))) (sRet (dCall (arity 1 F_law_good_span) [] (aCons (dVar 0) (aNil)))) (sNil)) (sSeq (sIf (tB' (bin (fEq false) (dVar 1) (dC (.int 3)))) (sRet (dCall (arity 1 F_law_good_cap) [] (aCons (dVar 0) (aNil)))) (sNil)) (sSeq (sIf (tB' (bin (fEq false) (dVar 1) (dC (.int 5)))) (sRet (dCB fTuple (aCons (dLc false (iRng1 (aCons (dVar 2) (aNil))) [4] (gN 4) (tYesD) (dCall (arity 1 F_law_good_moment) [] (aCons (dVar 0) (aNil)))) (aNil)))) (sNil)) (sSeq (sSet 5 (dLst true (aNil))) (sSeq (sFor (iRng1 (aCons (bin fPlus (dVar 2) (dC (.int 1))) (aNil))) (gN 6) (sDrop (dBM .list fApp (dVar 5) (aCons (dCB fTuple (aCons (dLc false (iRng1 (aCons (bin fPlus (dVar 2) (dC (.int 1))) (aNil))) [4] (gN 4) (tYesD) (dCall (arity 1 F_law_good_cap) [] (aCons (dVar 0) (aNil)))) (aNil))) (aNil))))) (sRet (dCB fTuple (aCons (dVar 5) (aNil)))))))))))
noncomputable def F_law_odd : FD := fnF 2 (sSeq (sSet 1 (dLst false (aCons (dC .non) (aCons (dC (.bl true)) (aCons (dC (.bl false)) (aCons (dC (.int 0)) (aCons (dC (.int 1)) (aCons (dC (.int 2)) (aCons (un fNeg (dC (.int 1))) (aCons (dC (.int 99)) (aCons (un fNeg (dC (.int 99))) (aCons (bin fPow (dC (.int 10)) (dC (.int 11))) (aCons (dC (.str (PySem.Str.ofString ""))) (aCons (dC (.str (PySem.Str.ofString "a"))) (aCons (dC (.str (PySem.Str.ofString "0"))) (aCons (dTup (aNil)) (aCons (dLst false (aNil)) (aCons (dTup (aCons (dC (.int 0)) (aCons (dC (.int 1)) (aNil)))) (aCons (dLst false (aCons (dC (.int 0)) (aCons (dC (.int 1)) (aNil)))) (aNil)))))))))))))))))))) (sSeq (sSet 1 (bin fPlus (dVar 1) (dLst false (aCons (dTup (aCons (dC (.int 1)) (aCons (dC (.int 0)) (aNil)))) (aCons (dTup (aCons (dC (.int 2)) (aCons (dC (.int 4)) (aNil)))) (aCons (dTup (aCons (dC (.bl true)) (aCons (dC (.int 1)) (aNil)))) (aCons (dTup (aCons (dC (.int 2)) (aCons (dC (.bl true)) (aNil)))) (aCons (dTup (aCons (dC (.int 0)) (aCons (dC (.bl false)) (aNil)))) (aCons (dTup (aCons (dC (.bl false)) (aCons (dC (.int 1)) (aNil)))) (aCons (dTup (aCons (dTup (aCons (dC (.int 0)) (aCons (dC (.int 1)) (aNil)))) (aCons (dC .non) (aNil)))) (aCons (dTup (aCons (dC (.int 3)) (aCons (dC (.int 2)) (aNil)))) (aNil)))))))))))) (sSeq (sSet 1 (bin fPlus (dVar 1) (dLst false (aCons (dTup (aCons (dC .non) (aNil))) (aCons (dTup (aCons (dC (.int 1)) (aCons (dC (.int 2)) (aCons (dC (.int 3)) (aNil))))) (aCons (dTup (aCons (dC (.int 0)) (aCons (dC (.int 2)) (aNil)))) (aNil))))))) (sRet (dCall (arity 2 F_law_pick) [] (aCons (dVar 0) (aCons (dVar 1) (aNil))))))))
noncomputable def F_law_bent : Nat → FD
  | 0 => fun _ _ => .bad
  | n + 1 => fnF 6 (sSeq (sSet 2 (dAnd (dIsi2 .tup .list (dVar 1)) (bin fGt (dCB fLen (aCons (dVar 1) (aNil))) (dC (.int 0))))) (sSeq (sIf (tAnd' (tB' (dVar 2)) (tB' (bin fGt (dCall (arity 2 F_law_draw) [] (aCons (dVar 0) (aCons (dC (.int 4)) (aNil)))) (dC (.int 0))))) (sSeq (sSet 3 (dCall (arity 2 F_law_draw) [] (aCons (dVar 0) (aCons (dCB fLen (aCons (dVar 1) (aNil))) (aNil))))) (sSeq (sSet 4 (dCB (fList true) (aCons (dVar 1) (aNil)))) (sSeq (sPut (dVar 4) (dVar 3) (dCall (arity 2 (F_law_bent n)) [] (aCons (dVar 0) (aCons (bin fIx (dVar 4) (dVar 3)) (aNil))))) (sSeq (sIf (tB' (dIsi .list (dVar 1))) (sRet (dVar 4)) (sNil)) (sRet (dCB fTuple (aCons (dVar 4) (aNil)))))))) (sNil)) (sSeq (sSet 5 (dCall (arity 2 F_law_draw) [] (aCons (dVar 0) (aCons (dC (.int 5)) (aNil))))) (sSeq (sIf (tAnd' (tB' (bin (fEq false) (dVar 5) (dC (.int 0)))) (tB' (dIsi .tup (dVar 1)))) (sRet (dCB (fList false) (aCons (dVar 1) (aNil)))) (sNil)) (sSeq (sIf (tAnd' (tB' (bin (fEq false) (dVar 5) (dC (.int 1)))) (tB' (dVar 2))) (sSeq (sSet 3 (dCall (arity 2 F_law_draw) [] (aCons (dVar 0) (aCons (dCB fLen (aCons (dVar 1) (aNil))) (aNil))))) (sRet (bin fPlus (dSl false (dVar 1) (oNone) (oSome (dVar 3))) (dSl false (dVar 1) (oSome (bin fPlus (dVar 3) (dC (.int 1)))) (oNone))))) (sNil)) (sSeq (sIf (tAnd' (tB' (bin (fEq false) (dVar 5) (dC (.int 2)))) (tB' (dIsi .tup (dVar 1)))) (sRet (bin fPlus (dVar 1) (dTup (aCons (dCall (arity 1 F_law_odd) [] (aCons (dVar 0) (aNil))) (aNil))))) (sNil)) (sSeq (sIf (tAnd' (tB' (bin (fEq false) (dVar 5) (dC (.int 3)))) (tB' (dCall (arity 1 F_law_whole) [] (aCons (dVar 1) (aNil))))) (sRet (bin fSub (bin fPlus (dVar 1) (dC (.int 1))) (bin fMul (dC (.int 2)) (dCall (arity 2 F_law_draw) [] (aCons (dVar 0) (aCons (dC (.int 2)) (aNil))))))) (sNil)) (sRet (dCall (arity 1 F_law_odd) [] (aCons (dVar 0) (aNil)))))))))))
noncomputable def F_law_told : FD := fnF 2 (sRet (dOr (dAnd (dIsB true (dVar 0)) (dVar 1)) (dAnd (dIsB false (dVar 0)) (dNot (dVar 1)))))
noncomputable def F_law_judged : FD := fnF 3 (sSeq (sIf (tNot' (tB' (dCall (arity 2 F_law_told) [] (aCons (dCall (arity 1 Fis_moment) [] (aCons (dVar 1) (aNil))) (aCons (dCall (arity 1 F_law_moment) [] (aCons (dVar 1) (aNil))) (aNil)))))) (sRet (dC (.bl false))) (sNil)) (sSeq (sIf (tNot' (tB' (dCall (arity 2 F_law_told) [] (aCons (dCall (arity 1 Fis_edge) [] (aCons (dVar 1) (aNil))) (aCons (dCall (arity 1 F_law_edge) [] (aCons (dVar 1) (aNil))) (aNil)))))) (sRet (dC (.bl false))) (sNil)) (sSeq (sIf (tNot' (tB' (dCall (arity 2 F_law_told) [] (aCons (dCall (arity 1 Fis_cap) [] (aCons (dVar 1) (aNil))) (aCons (dCall (arity 1 F_law_cap) [] (aCons (dVar 1) (aNil))) (aNil)))))) (sRet (dC (.bl false))) (sNil)) (sSeq (sIf (tNot' (tB' (dCall (arity 2 F_law_told) [] (aCons (dCall (arity 1 Fis_span) [] (aCons (dVar 1) (aNil))) (aCons (dCall (arity 1 F_law_span) [] (aCons (dVar 1) (aNil))) (aNil)))))) (sRet (dC (.bl false))) (sNil)) (sSeq (sIf (tNot' (tB' (dCall (arity 2 F_law_told) [] (aCons (dCall (arity 1 Fis_table) [] (aCons (dVar 1) (aNil))) (aCons (dCall (arity 1 F_law_table) [] (aCons (dVar 1) (aNil))) (aNil)))))) (sRet (dC (.bl false))) (sNil)) (sSeq (sFor (iRng2 (aCons (dCB fMax2 (aCons (dC (.int 1)) (aCons (bin fSub (dVar 0) (dC (.int 1))) (aNil)))) (aCons (bin fPlus (dVar 0) (dC (.int 2))) (aNil)))) (gN 2) (sIf (tNot' (tB' (dCall (arity 2 F_law_told) [] (aCons (dCall (arity 2 Fis_readings) [] (aCons (dVar 2) (aCons (dVar 1) (aNil)))) (aCons (dCall (arity 2 F_law_readings) [] (aCons (dVar 2) (aCons (dVar 1) (aNil)))) (aNil)))))) (sRet (dC (.bl false))) (sNil))) (sRet (dC (.bl true)))))))))
noncomputable def Flaw : FD := fnF 6 (sSeq (sSet 1 (dCall (arity 1 F_law_box) [] (aCons (dVar 0) (aNil)))) (sSeq (sSet 2 (dCall (arity 2 F_law_pick) [] (aCons (dVar 1) (aCons (dLst false (aCons (dC (.int 1)) (aCons (dC (.int 2)) (aCons (dC (.int 2)) (aCons (dC (.int 3)) (aCons (dC (.int 3)) (aCons (dC (.int 6)) (aNil)))))))) (aNil))))) (sSeq (sSet 3 (dCall (arity 3 F_law_good) [] (aCons (dVar 1) (aCons (dCall (arity 2 F_law_draw) [] (aCons (dVar 1) (aCons (dC (.int 6)) (aNil)))) (aCons (dVar 2) (aNil)))))) (sSeq (sFor (iRng1 (aCons (dC (.int 3)) (aNil))) (gN 4) (sSeq (sIf (tNot' (tB' (dCall (arity 2 F_law_judged) [] (aCons (dVar 2) (aCons (dVar 3) (aNil)))))) (sRet (dC (.bl false))) (sNil)) (sIf (tAnd' (tB' (bin fGt (dCall (arity 2 F_law_draw) [] (aCons (dVar 1) (aCons (dC (.int 3)) (aNil)))) (dC (.int 0)))) (tB' (bin fLt (dVar 4) (dC (.int 2))))) (sSet 3 (dCall (arity 2 (F_law_bent 8)) [] (aCons (dVar 1) (aCons (dVar 3) (aNil))))) (sNil)))) (sSeq (sIf (tB' (bin (fEq false) (dCall (arity 2 F_law_draw) [] (aCons (dVar 1) (aCons (dC (.int 8)) (aNil)))) (dC (.int 0)))) (sFor (iRng1 (aCons (bin fPlus (dC (.int 1)) (dCall (arity 2 F_law_draw) [] (aCons (dVar 1) (aCons (dC (.int 4)) (aNil))))) (aNil))) (gN 4) (sSet 3 (dCall (arity 2 F_law_pick) [] (aCons (dVar 1) (aCons (dLst false (aCons (dTup (aCons (dVar 3) (aNil))) (aCons (dLst false (aCons (dVar 3) (aNil))) (aNil)))) (aNil)))))) (sNil)) (sSeq (sSet 5 (dCB fRepr (aCons (dVar 3) (aNil)))) (sSeq (sIf (tOr' (tNot' (tB' (dCall (arity 2 F_law_judged) [] (aCons (dVar 2) (aCons (dVar 3) (aNil)))))) (tNot' (tB' (dCall (arity 2 F_law_judged) [] (aCons (dVar 2) (aCons (dVar 3) (aNil))))))) (sRet (dC (.bl false))) (sNil)) (sRet (bin (fEq false) (dCB fRepr (aCons (dVar 3) (aNil))) (dVar 5))))))))))
end K02
end

section
set_option Elab.async false
set_option linter.all false
set_option maxRecDepth 100000
set_option maxHeartbeats 1000000
open Z
local macro_rules | `(tactic| walk_at "z") => `(tactic| simp [fnF_eq, sSeq, sSet, sRet, sIf, sDrop, sNil, sAsg, sPar, sPut, F.then_nx, F.then_rt, F.then_bk, F.then_ct, F.then_ex, F.then_bad, F.then_ite, R.lift_ok, R.lift_ex, R.lift_bad, R.lift_ite, R.bind_ok, R.bind_ex, R.bind_bad, R.bind_ite, F.fin_nx, F.fin_rt, F.fin_ex, F.fin_bad, F.fin_ite, dVar, dC, bin, un, dAnd, dOr, dNot, tB', tAnd', tOr', tNot', dIf, asB_bl, aNil, aCons, dTup, mkT, dLst, mkL, fIx, seqOf, lstOf, L2.atI, L2.ixN, fAdd, fPlus, dSl, oSome, oNone, asI, fSl, fInT, fStr, fIntT, fFmt, dFmt, dJs, fPart, fStarts, fFind, fIsdig, fIsasc, fMulS, fSub, fMul, fLt, fGt, fLe, fGe, fEq, fDiv, fMod, fNeg, fPow, arity, dCall, dCallY, dCallK, noEx, dCB, fGcd, fLen, fMax2, fMin2, fInt, gN, gT, gAll, dIsi, fIsi, isTy, refOk, dIsN, dNotN, dIsB, dNotB, isNon, isBl, sz_lt, sz_le, sRaise, sTry, collapse_const, endX, dXf, dXis, dBM, dBM0, fPop, fApp, fRevM, tyD, *])
local macro_rules | `(tactic| walk_at "y") => `(tactic| simp [fnF_eq, sSeq, sSet, sRet, sIf, sDrop, sNil, sAsg, sPar, sPut, F.then_nx, F.then_rt, F.then_bk, F.then_ct, F.then_ex, F.then_bad, F.then_ite, R.lift_ok, R.lift_ex, R.lift_bad, R.lift_ite, R.bind_ok, R.bind_ex, R.bind_bad, R.bind_ite, F.fin_nx, F.fin_rt, F.fin_ex, F.fin_bad, F.fin_ite, dVar, dC, bin, un, dAnd, dOr, dNot, tB', tAnd', tOr', tNot', dIf, asB_bl, aNil, aCons, dTup, mkT, dLst, mkL, fIx, seqOf, lstOf, L2.atI, L2.ixN, fAdd, fPlus, dSl, oSome, oNone, asI, fSl, fInT, fStr, fIntT, fFmt, dFmt, dJs, fPart, fStarts, fFind, fIsdig, fIsasc, fMulS, fSub, fMul, fLt, fGt, fLe, fGe, fEq, fDiv, fMod, fNeg, fPow, arity, dCall, dCallY, dCallK, noEx, dCB, fGcd, fLen, fMax2, fMin2, fInt, sFor, iRng1, fRng1, iSeq, asSeq, iAny, asAny, dIsi, fIsi, isTy, refOk, dIsN, dNotN, dIsB, dNotB, isNon, isBl, sz_lt, sz_le, sRaise, sTry, collapse_const, endX, dXf, dXis, dBM, dBM0, fPop, fApp, fRevM, tyD, *])
namespace K02
abbrev mo (p q : Int) : D := .tup [.int p, .int q]
def g (a b : Int) : Int := ((Nat.gcd a.natAbs b.natAbs : Nat) : Int)
abbrev low (a b : Int) : D := mo (a / g a b) (b / g a b)
theorem g_pos {a b : Int} (h : 0 < b) : 0 < g a b := by
  have : 0 < Nat.gcd a.natAbs b.natAbs := Nat.gcd_pos_of_pos_right _ (by omega)
  unfold g; omega
theorem g_le {a b : Int} (h : 0 < b) : g a b ≤ b := by
  have : Nat.gcd a.natAbs b.natAbs ≤ b.natAbs := Nat.le_of_dvd (by omega) (Nat.gcd_dvd_right _ _)
  unfold g; omega
theorem g_ok {a b : Int} (h : 0 < b) (k : sm 9000 b) : DivOk (g a b) := (k.le (Int.le_of_lt (g_pos h)) (g_le h)).div (g_pos h) (Nat.le_refl _)
def gC : DenT := tB' (bin fGt (dVar 1) (dC (.int 0)))
def gB : SDen := sPar 0 1 (aCons (dVar 1) (aCons (bin fMod (dCB fIntT (aCons (dVar 0) (aNil))) (dVar 1)) (aNil)))
theorem gcd_step {a b : Int} (ha : 0 ≤ a) (hb : 0 < b) : g b (a % b) = g a b := by
  obtain ⟨m, rfl⟩ := Int.eq_ofNat_of_zero_le ha
  obtain ⟨n, rfl⟩ := Int.eq_ofNat_of_zero_le (Int.le_of_lt hb)
  unfold g
  rw [← Int.natCast_emod, Int.natAbs_natCast, Int.natAbs_natCast, Int.natAbs_natCast, Nat.gcd_comm m n, Nat.gcd_rec n m, Nat.gcd_comm n (m % n)]
theorem gcd_go : ∀ (k n : Nat) (a b : Int) (S : Sto), 2 * k + 1 ≤ n → 0 ≤ a → 0 ≤ b → b < 2 ^ k → whileGo gC gB n [some (.int a), some (.int b)] S = .nx [some (.int (g a b)), some (.int 0)] S := by
  have stop : ∀ (n : Nat) (a : Int) (S : Sto), 0 ≤ a → whileGo gC gB (n + 1) [some (.int a), some (.int 0)] S = .nx [some (.int (g a 0)), some (.int 0)] S := fun n a S ha => by
    have e : g a 0 = a := by unfold g; simp; omega
    rw [whileGo, e]
    simp [gC, tB', bin, dVar, dC, fGt, R.bind_ok, asB_bl, R.lift_ok]
  have turn : ∀ (n : Nat) (a b : Int) (S : Sto), 0 < b → whileGo gC gB (n + 1) [some (.int a), some (.int b)] S = whileGo gC gB n [some (.int b), some (.int (a % b))] S := fun n a b S hb => by
    rw [whileGo]
    simp [gC, gB, tB', bin, dVar, dC, fGt, fMod, fInt, fIntT, dCB, aCons, aNil, sPar, R.bind_ok, asB_bl, R.lift_ok, hb]
  intro k
  induction k with
  | zero =>
    intro n a b S hn ha hb hk
    have e : b = 0 := by have : b < 1 := hk; omega
    subst e
    obtain ⟨m, rfl⟩ : ∃ m, n = m + 1 := ⟨n - 1, by omega⟩
    exact stop m a S ha
  | succ k ih =>
    intro n a b S hn ha hb hk
    obtain ⟨m, rfl⟩ : ∃ m, n = m + 2 := ⟨n - 2, by omega⟩
    by_cases h0 : b = 0
    · subst h0; exact stop (m + 1) a S ha
    have hb' : 0 < b := by omega
    rw [turn (m + 1) a b S hb']
    have r0 : 0 ≤ a % b := Int.emod_nonneg _ h0
    have r1 : a % b < b := Int.emod_lt_of_pos _ hb'
    by_cases h1 : a % b = 0
    · rw [h1, ← gcd_step ha hb', h1]; exact stop m b S hb
    have hr : 0 < a % b := by omega
    rw [turn m b (a % b) S hr, ih m (a % b) (b % (a % b)) S (by omega) r0 (Int.emod_nonneg _ h1) ?_, gcd_step hb hr, gcd_step ha hb']
    have s1 : b % (a % b) < a % b := Int.emod_lt_of_pos _ hr
    have hk2 : b < 2 * 2 ^ k := by rw [Int.pow_succ] at hk; omega
    by_cases h2 : 2 * (a % b) ≤ b
    · omega
    · have e : b % (a % b) = b - a % b := by
        have := Int.emod_add_mul_ediv b (a % b)
        have q1 : b / (a % b) = 1 := by
          have l1 : 1 ≤ b / (a % b) := (Int.le_ediv_iff_mul_le hr).mpr (by omega)
          have l2 : b / (a % b) < 2 := (Int.ediv_lt_iff_lt_mul hr).mpr (by omega)
          omega
        rw [q1] at this
        omega
      omega
theorem law_gcd_eq {a b : Int} {S : Sto} (ha : 0 ≤ a) (hb : 0 ≤ b) (k : sm 249 b) : F_law_gcd [.int a, .int b] S = .ok (.int (g a b)) S := by
  have hk : b < 2 ^ 249 := by
    unfold sm at k
    have e : ((2 ^ 249 : Nat) : Int) = 2 ^ 249 := by norm_cast
    omega
  have h := gcd_go 249 500 a b S (by decide) ha hb hk
  have e : F_law_gcd = fnF 2 (sSeq (sWhile 500 gC gB) (sRet (dVar 0))) := rfl
  rw [e]
  simp [fnF_eq, sSeq, sWhile, h, F.then_nx, sRet, dVar, R.lift_ok, F.fin_rt]
theorem g_scale {k a b : Int} (hk : 0 < k) : g (k * a) (k * b) = k * g a b := by
  unfold g
  rw [Int.natAbs_mul, Int.natAbs_mul, Nat.gcd_mul_left, Int.natCast_mul]
  congr 1
  omega
theorem low_scale {k a b : Int} (hk : 0 < k) : low (k * a) (k * b) = low a b := by
  unfold low
  rw [g_scale hk, Int.mul_ediv_mul_of_pos _ _ hk, Int.mul_ediv_mul_of_pos _ _ hk]
theorem g_dvd_l {a b : Int} : g a b ∣ a := by
  unfold g
  have h := Nat.gcd_dvd_left a.natAbs b.natAbs
  exact Int.ofNat_dvd_left.mpr h
theorem g_dvd_r {a b : Int} : g a b ∣ b := by
  unfold g
  have h := Nat.gcd_dvd_right a.natAbs b.natAbs
  exact Int.ofNat_dvd_left.mpr h
theorem g_one {a b : Int} (hb : 0 < b) : g (a / g a b) (b / g a b) = 1 := by
  have hg := g_pos (a := a) hb
  have e : g (g a b * (a / g a b)) (g a b * (b / g a b)) = g a b * g (a / g a b) (b / g a b) := g_scale hg
  rw [Int.mul_ediv_cancel' g_dvd_l, Int.mul_ediv_cancel' g_dvd_r] at e
  have e2 : g a b * 1 = g a b * g (a / g a b) (b / g a b) := by omega
  exact (Int.eq_of_mul_eq_mul_left (by omega) e2).symm
theorem low_one {a b : Int} (h : g a b = 1) : low a b = mo a b := by
  unfold low; rw [h, Int.ediv_one, Int.ediv_one]
/-- a moment in lowest terms, its numbers below 2 ^ k -/
structure IsM (k : Nat) (p q : Int) : Prop where
  p0 : 0 ≤ p
  q0 : 0 < q
  one : g p q = 1
  ps : sm k p
  qs : sm k q
theorem IsM.mono {k j : Nat} {p q : Int} (h : IsM k p q) (hj : k ≤ j) : IsM j p q := ⟨h.p0, h.q0, h.one, h.ps.mono hj, h.qs.mono hj⟩
theorem isM_low {k : Nat} {a b : Int} (ha : 0 ≤ a) (hb : 0 < b) (sa : sm k a) (sb : sm k b) : IsM k (a / g a b) (b / g a b) := by
  have hg := g_pos (a := a) hb
  have h1 : 0 ≤ a / g a b := Int.ediv_nonneg ha (Int.le_of_lt hg)
  have h2 : 0 < b / g a b := by
    rcases Int.lt_or_le 0 (b / g a b) with h | h
    · exact h
    · have e := Int.mul_ediv_cancel' (g_dvd_r (a := a) (b := b))
      have := Int.mul_nonpos_of_nonneg_of_nonpos (Int.le_of_lt hg) h
      omega
  have l : ∀ x : Int, 0 ≤ x → x / g a b ≤ x := fun x hx => Int.ediv_le_self _ hx
  exact ⟨h1, h2, g_one hb, sa.le h1 (l a ha), sb.le (Int.le_of_lt h2) (l b (Int.le_of_lt hb))⟩
abbrev moD (m : Int × Int) : D := mo m.1 m.2
theorem isM_0 : IsM 1 0 1 := ⟨by decide, by decide, by unfold g; decide, by unfold sm; decide, by unfold sm; decide⟩
def Bx (gs : List Int) (x st c : Int) (rest : Sto) : Sto := .lst (gs.map D.int) :: .lst [.int x, .ref 0, .int st, .int c] :: rest
def IsBox (S rest : Sto) : Prop := ∃ gs x st c, S = Bx gs x st c rest
theorem pyA_ints : ∀ gs : List Int, pyA (gs.map D.int) = some (gs.map PySem.PyData.int)
  | [] => by rw [List.map_nil, pyA]; rfl
  | i :: gs => by rw [List.map_cons, pyA, pyD, pyA_ints gs]; rfl
theorem shaped_ints (gs : List Int) : PySem.SeqAt.shaped (.list (gs.map PySem.PyData.int)) = true := by
  have h1 : ∀ gs : List Int, PySem.PyData.canLayAll0 (gs.map PySem.PyData.int) = true := fun gs => by
    induction gs with
    | nil => simp [PySem.PyData.canLayAll0]
    | cons i gs ih => simp [PySem.PyData.canLayAll0, PySem.PyData.canLay0, ih]
  have h2 : ∀ gs : List Int, PySem.PyData.depthAll (gs.map PySem.PyData.int) ≤ 1 := fun gs => by
    induction gs with
    | nil => simp [PySem.PyData.depthAll]
    | cons i gs ih => simp [PySem.PyData.depthAll, PySem.PyData.depth]; omega
  have h3 := h2 gs
  unfold PySem.SeqAt.shaped
  simp [PySem.PyData.canLay0, PySem.PyData.depth, h1]
  omega
theorem ne_nil {gs : List Int} {S : Sto} (h : S[0]? = some (.lst (gs.map D.int))) : eqN true (.ref 0) (.lst []) S = .ok (.bl (!gs.isEmpty)) S := by
  have e1 : pyS S (.ref 0) = some (.list (gs.map PySem.PyData.int)) := by
    simp only [pyS, h, pyA_ints]; rfl
  have e2 : pyS S (.lst []) = some (.list []) := by simp only [pyS]; rw [pyD, pyA]; rfl
  have s1 := shaped_ints gs
  have s2 : PySem.SeqAt.shaped (.list []) = true := shaped_ints []
  unfold eqN
  rw [e1, e2]
  simp only [s1, s2, and_self, if_true]
  cases gs <;> simp [PySem.PyData.eqv, PySem.PyData.eqvAll]
theorem mulc {j : Int} (h : -(2 ^ 64) < j ∧ j < 2 ^ 64) (i : Int) : MulOk i j := .inl (.inr h)
theorem ne_nil' {gs : List Int} {xs : List D} {c rest} {b : Bool} (hx : xs = gs.map D.int) (hb : b = !gs.isEmpty) : eqN true (.ref 0) (.lst []) (Cell.lst xs :: c :: rest) = .ok (.bl b) (Cell.lst xs :: c :: rest) := by
  subst hx hb
  exact ne_nil rfl
theorem pop_last (gi : List Int) (z : Int) : ((gi ++ [z]).map D.int).dropLast = gi.map D.int := by simp
theorem draw_eq {n : Int} {S rest : Sto} (hS : IsBox S rest) (h0 : 0 < n) (h1 : n < 2 ^ 60) : ∃ d S', F_law_draw [.ref 1, .int n] S = .ok (.int d) S' ∧ IsBox S' rest ∧ 0 ≤ d ∧ d < n := by
  obtain ⟨gs, x, st, c, rfl⟩ := hS
  have m1 := mulc (j := 48271) (by decide)
  have m2 := mulc (j := 69621) (by decide)
  have m3 := mulc (j := 39373) (by decide)
  have m4 := mulc (j := 40692) (by decide)
  have dn : DivOk n := sm.div (a := 60) (by unfold sm; omega) h0 (by decide)
  have d32 : DivOk 32 := sm.div (a := 60) (by unfold sm; decide) (by decide) (by decide)
  have hm : ∀ y : Int, 0 ≤ y % n ∧ y % n < n := fun y => ⟨Int.emod_nonneg _ (by omega), Int.emod_lt_of_pos _ h0⟩
  by_cases hx : x < 1
  · have hx0 : ¬ 0 < x := by omega
    rcases List.eq_nil_or_concat gs with rfl | ⟨gi, z, rfl⟩ <;> (try rw [List.concat_eq_append])
    · have hn := fun c rest => ne_nil' (gs := []) (xs := []) (c := c) (rest := rest) (b := false) rfl rfl
      unfold Bx
      have K : F_law_draw [.ref 1, .int n] (.lst (([] : List Int).map D.int) :: .lst [.int x, .ref 0, .int st, .int c] :: rest) = .ok (.int ((((st * 48271 + (c + 1) * 69621 + 5) % 2147483647) * 39373 + (c + 1) * 40692 + 3) % 2147483399 / 32 % n)) (Bx [] x ((st * 48271 + (c + 1) * 69621 + 5) % 2147483647) (c + 1) rest) := by
        unfold F_law_draw Bx
        walk_at "z"
      exact ⟨_, _, K, ⟨[], x, _, _, rfl⟩, (hm _).1, (hm _).2⟩
    · have hn := fun c rest => ne_nil' (gs := gi ++ [z]) (xs := gi.map D.int ++ [.int z]) (c := c) (rest := rest) (b := true) (by simp) (by simp)
      unfold Bx
      by_cases hz : 0 < z
      · have K : F_law_draw [.ref 1, .int n] (.lst ((gi ++ [z]).map D.int) :: .lst [.int x, .ref 0, .int st, .int c] :: rest) = .ok (.int (z % n)) (Bx gi (z / n) st c rest) := by
          unfold F_law_draw Bx
          walk_at "z"
        exact ⟨_, _, K, ⟨gi, _, _, _, rfl⟩, (hm _).1, (hm _).2⟩
      · have K : F_law_draw [.ref 1, .int n] (.lst ((gi ++ [z]).map D.int) :: .lst [.int x, .ref 0, .int st, .int c] :: rest) = .ok (.int ((((st * 48271 + (c + 1) * 69621 + 5) % 2147483647) * 39373 + (c + 1) * 40692 + 3) % 2147483399 / 32 % n)) (Bx gi z ((st * 48271 + (c + 1) * 69621 + 5) % 2147483647) (c + 1) rest) := by
          unfold F_law_draw Bx
          walk_at "z"
        exact ⟨_, _, K, ⟨gi, _, _, _, rfl⟩, (hm _).1, (hm _).2⟩
  · have hx0 : 0 < x := by omega
    unfold Bx
    have K : F_law_draw [.ref 1, .int n] (.lst (gs.map D.int) :: .lst [.int x, .ref 0, .int st, .int c] :: rest) = .ok (.int (x % n)) (Bx gs (x / n) st c rest) := by
      unfold F_law_draw Bx
      walk_at "z"
    exact ⟨_, _, K, ⟨gs, _, _, _, rfl⟩, (hm _).1, (hm _).2⟩

theorem c6 : L2.CPow 10 6 := by unfold L2.CPow; decide
theorem c5 : L2.CPow 10 5 := by unfold L2.CPow; decide
theorem c10 : L2.CPow 10 10 := by unfold L2.CPow; decide
theorem c18 : L2.CPow 10 18 := by unfold L2.CPow; decide
theorem wide_eq {S rest : Sto} (hS : IsBox S rest) : ∃ d S', F_law_wide [.ref 1] S = .ok (.int d) S' ∧ IsBox S' rest ∧ 0 ≤ d ∧ d < 1000000000000 := by
  obtain ⟨d1, S1, e1, b1, p1, q1⟩ := draw_eq (n := 1000000) hS (by decide) (by decide)
  obtain ⟨d2, S2, e2, b2, p2, q2⟩ := draw_eq (n := 1000000) b1 (by decide) (by decide)
  have h6 := c6
  have hm : MulOk d1 1000000 := mulc (by decide) d1
  have K : F_law_wide [.ref 1] S = .ok (.int (d1 * 1000000 + d2)) S2 := by
    unfold F_law_wide
    walk_at "z"
  exact ⟨_, _, K, b2, by omega, by omega⟩
theorem sm40 {i : Int} (h0 : 0 ≤ i) (h : i < 1099511627776) : sm 40 i := by unfold sm; omega
theorem g_comm {a b : Int} : g a b = g b a := by unfold g; rw [Nat.gcd_comm]
theorem cutD_map {α β : Type} (f : α → β) (xs : List α) (l h : Option Int) : cutD (xs.map f) l h = (cutD xs l h).map f := by
  unfold cutD
  rw [List.length_map, List.map_take, List.map_drop]
theorem cut_mem {α : Type} {xs : List α} {l h : Option Int} {x : α} (hx : x ∈ cutD xs l h) : x ∈ xs := by
  unfold cutD at hx
  exact List.mem_of_mem_drop (List.mem_of_mem_take hx)
noncomputable def bB : SDen := sIf (tB' (bin fGe (dVar 3) (bin fPow (dC (.int 10)) (dC (.int 18))))) (sDrop (dBM .list fApp (dVar 1) (aCons (dVar 3) (aNil)))) (sSet 2 (bin fMod (dCB fIntT (aCons (bin fPlus (bin fPlus (bin fMul (dVar 2) (dC (.int 48271))) (bin fMul (dVar 3) (dC (.int 69621)))) (dC (.int 7))) (aNil))) (dC (.int 2147483647))))
theorem box_go {ds : D} : ∀ (zs gs : List Int) (st : Int) (x : Option D), gs.length + zs.length ≤ 1000 →
    ∃ (gs' : List Int) (st' : Int) (x' : Option D), forGo (fun _ => True) (gN 3) bB (zs.map D.int) [some ds, some (.ref 0), some (.int st), x] [.lst (gs.map D.int)] = .nx [some ds, some (.ref 0), some (.int st'), x'] [.lst (gs'.map D.int)]
  | [], gs, st, x, _ => ⟨gs, st, x, forGo_nil trivial⟩
  | z :: zs, gs, st, x, hl => by
    simp only [List.length_cons] at hl
    have h18 := c18
    have m1 := mulc (j := 48271) (by decide)
    have m2 := mulc (j := 69621) (by decide)
    have eg : (gN 3).run (.int z) [some ds, some (.ref 0), some (.int st), x] = some [some ds, some (.ref 0), some (.int st), some (.int z)] := rfl
    by_cases hz : z < 1000000000000000000
    · have eb : bB [some ds, some (.ref 0), some (.int st), some (.int z)] [.lst (gs.map D.int)] = .nx [some ds, some (.ref 0), some (.int ((st * 48271 + z * 69621 + 7) % 2147483647)), some (.int z)] [.lst (gs.map D.int)] := by
        have hz2 : ¬ 1000000000000000000 ≤ z := by omega
        unfold bB
        walk_at "z"
      obtain ⟨gs', st', x', ih⟩ := box_go (ds := ds) zs gs ((st * 48271 + z * 69621 + 7) % 2147483647) (some (.int z)) (by omega)
      refine ⟨gs', st', x', ?_⟩
      rw [List.map_cons, forGo, if_pos trivial, eg]
      simp only [eb]
      exact ih
    · have eb : bB [some ds, some (.ref 0), some (.int st), some (.int z)] [.lst (gs.map D.int)] = .nx [some ds, some (.ref 0), some (.int st), some (.int z)] [.lst ((gs ++ [z]).map D.int)] := by
        have hz2 : 1000000000000000000 ≤ z := by omega
        have hf : FitS gs.length := of_eq_true (sz_lt (by omega))
        unfold bB
        walk_at "z"
      obtain ⟨gs', st', x', ih⟩ := box_go (ds := ds) zs (gs ++ [z]) st (some (.int z)) (by simp only [List.length_append, List.length_cons, List.length_nil]; omega)
      refine ⟨gs', st', x', ?_⟩
      rw [List.map_cons, forGo, if_pos trivial, eg]
      simp only [eb]
      exact ih
theorem box_eq (ns : List Int) (hl : ns.length ≤ 63) : ∃ S', F_law_box [.frz (ns.map D.int)] [] = .ok (.ref 1) S' ∧ IsBox S' [] := by
  have hc : (cutD ns none (some 63)).length ≤ ns.length := cutD_len ns none (some 63)
  obtain ⟨gs, st, x', h⟩ := box_go (ds := .frz (ns.map D.int)) (cutD ns none (some 63)) [] (101 + ((cutD ns none (some 63)).length : Int)) none (by simp only [List.length_nil]; omega)
  have e : F_law_box = fnF 4 (sSeq (sSet 1 (dLst true (aNil))) (sSeq (sSet 2 (bin fPlus (dC (.int 101)) (dCB fLen (aCons (dSl false (dVar 0) (oNone) (oSome (dC (.int 63)))) (aNil))))) (sSeq (sFor (iAny (dSl false (dVar 0) (oNone) (oSome (dC (.int 63))))) (gN 3) bB) (sSeq (sDrop (dBM0 .list fRevM (dVar 1))) (sRet (dLst true (aCons (dC (.int 0)) (aCons (dVar 1) (aCons (dVar 2) (aCons (dC (.int 0)) (aNil))))))))))) := rfl
  have st1 : ∀ xs : List D, still (.lst xs) xs = fun _ => True := fun _ => rfl
  have hf : Fit (cutD ns none (some 63)).length := of_eq_true (sz_le (by omega))
  refine ⟨Bx gs.reverse 0 st 0 [], ?_, ⟨_, _, _, _, rfl⟩⟩
  rw [e]
  unfold Bx
  simp only [List.map_nil] at h
  simp [fnF_eq, sSeq, sSet, sFor, iAny, asAny, asSeq, dLst, mkL, sz_le, aCons, aNil, dC, R.bind_ok, R.lift_ok, dVar, seqOf, lstOf, st1, F.then_nx, h, sRet, F.fin_rt, dSl, oNone, oSome, asI, fSl, cutD_map, hf, bin, dCB, fLen, fAdd, fPlus, sDrop, dBM0, fRevM, tyD]

theorem pick_gen {ds : List D} {S rest : Sto} (hS : IsBox S rest) (hm : 0 < ds.length) (hl : ds.length ≤ 1000) : ∃ d S', F_law_pick [.ref 1, .lst ds] S = .ok d S' ∧ IsBox S' rest ∧ d ∈ ds := by
  obtain ⟨d1, S1, e1, b1, p1, q1⟩ := draw_eq (n := ds.length) hS (by omega) (by omega)
  have hi : d1.toNat < ds.length := by omega
  have hx : ¬ d1 < 0 := by omega
  have K : F_law_pick [.ref 1, .lst ds] S = .ok ds[d1.toNat] S1 := by
    unfold F_law_pick
    walk_at "z"
  exact ⟨_, _, K, b1, List.getElem_mem hi⟩
end K02
end

section
set_option Elab.async false
set_option linter.all false
set_option maxRecDepth 100000
set_option maxHeartbeats 1000000
open Z
local macro_rules | `(tactic| walk_at "z") => `(tactic| simp [fnF_eq, sSeq, sSet, sRet, sIf, sDrop, sNil, sAsg, sPar, sPut, F.then_nx, F.then_rt, F.then_bk, F.then_ct, F.then_ex, F.then_bad, F.then_ite, R.lift_ok, R.lift_ex, R.lift_bad, R.lift_ite, R.bind_ok, R.bind_ex, R.bind_bad, R.bind_ite, F.fin_nx, F.fin_rt, F.fin_ex, F.fin_bad, F.fin_ite, dVar, dC, bin, un, dAnd, dOr, dNot, tB', tAnd', tOr', tNot', dIf, asB_bl, aNil, aCons, dTup, mkT, dLst, mkL, fIx, seqOf, lstOf, L2.atI, L2.ixN, fAdd, fPlus, dSl, oSome, oNone, asI, fSl, fInT, fStr, fIntT, fFmt, dFmt, dJs, fPart, fStarts, fFind, fIsdig, fIsasc, fMulS, fSub, fMul, fLt, fGt, fLe, fGe, fEq, fDiv, fMod, fNeg, fPow, arity, dCall, dCallY, dCallK, dCallX, dSoSetL, dIsi2, fIsi2, noEx, dCB, fGcd, fLen, fMax2, fMin2, fInt, gN, gT, gAll, dIsi, fIsi, isTy, refOk, dIsN, dNotN, dIsB, dNotB, isNon, isBl, sz_lt, sz_le, sRaise, sTry, collapse_const, endX, dXf, dXis, dBM, dBM0, fPop, fApp, fRevM, fIns, fPopAt, tTr, fTr, aStar, dSoSet, sRetN, fTuple, fAbs, tyD, *])
local macro_rules | `(tactic| walk_at "y") => `(tactic| simp [fnF_eq, sSeq, sSet, sRet, sIf, sDrop, sNil, sAsg, sPar, sPut, F.then_nx, F.then_rt, F.then_bk, F.then_ct, F.then_ex, F.then_bad, F.then_ite, R.lift_ok, R.lift_ex, R.lift_bad, R.lift_ite, R.bind_ok, R.bind_ex, R.bind_bad, R.bind_ite, F.fin_nx, F.fin_rt, F.fin_ex, F.fin_bad, F.fin_ite, dVar, dC, bin, un, dAnd, dOr, dNot, tB', tAnd', tOr', tNot', dIf, asB_bl, aNil, aCons, dTup, mkT, dLst, mkL, fIx, seqOf, lstOf, L2.atI, L2.ixN, fAdd, fPlus, dSl, oSome, oNone, asI, fSl, fInT, fStr, fIntT, fFmt, dFmt, dJs, fPart, fStarts, fFind, fIsdig, fIsasc, fMulS, fSub, fMul, fLt, fGt, fLe, fGe, fEq, fDiv, fMod, fNeg, fPow, arity, dCall, dCallY, dCallK, dCallX, dSoSetL, dIsi2, fIsi2, noEx, dCB, fGcd, fLen, fMax2, fMin2, fInt, sFor, iRng1, fRng1, iSeq, asSeq, iAny, asAny, dIsi, fIsi, isTy, refOk, dIsN, dNotN, dIsB, dNotB, isNon, isBl, sz_lt, sz_le, sRaise, sTry, collapse_const, endX, dXf, dXis, dBM, dBM0, fPop, fApp, fRevM, fIns, fPopAt, tTr, fTr, aStar, dSoSet, sRetN, fTuple, fAbs, tyD, *])
local macro_rules | `(tactic| walk_at "v") => `(tactic| simp [fnF_eq, sSeq, sSet, sRet, sIf, sDrop, sNil, sAsg, sPar, sPut, F.then_nx, F.then_rt, F.then_bk, F.then_ct, F.then_ex, F.then_bad, F.then_ite, R.lift_ok, R.lift_ex, R.lift_bad, R.lift_ite, R.bind_ok, R.bind_ex, R.bind_bad, R.bind_ite, F.fin_nx, F.fin_rt, F.fin_ex, F.fin_bad, F.fin_ite, dVar, dC, bin, un, dAnd, dOr, dNot, tB', tAnd', tOr', tNot', dIf, asB_bl, aNil, aCons, dTup, mkT, dLst, mkL, seqOf, lstOf, fAdd, fPlus, dSl, oSome, oNone, asI, fInT, fStr, fIntT, fFmt, dFmt, dJs, fPart, fStarts, fFind, fIsdig, fIsasc, fMulS, fSub, fLt, fGt, fLe, fGe, fEq, fMod, fNeg, fPow, arity, dCall, dCallY, dCallK, dCallX, dSoSetL, dIsi2, fIsi2, noEx, dCB, fGcd, fMax2, fMin2, fInt, gN, gT, gAll, dIsi, fIsi, isTy, refOk, dIsN, dNotN, dIsB, dNotB, isNon, isBl, sz_lt, sz_le, sRaise, sTry, collapse_const, endX, dXf, dXis, dBM, dBM0, tTr, fTr, aStar, sRetN, fAbs, *])
local macro_rules | `(tactic| walk_at "u") => `(tactic| simp [fnF_eq, sSeq, sSet, sRet, sIf, sDrop, sNil, sAsg, sPar, sPut, F.then_nx, F.then_rt, F.then_bk, F.then_ct, F.then_ex, F.then_bad, F.then_ite, R.lift_ok, R.lift_ex, R.lift_bad, R.lift_ite, R.bind_ok, R.bind_ex, R.bind_bad, R.bind_ite, F.fin_nx, F.fin_rt, F.fin_ex, F.fin_bad, F.fin_ite, dVar, dC, bin, un, dAnd, dOr, dNot, tB', tAnd', tOr', tNot', dIf, asB_bl, aNil, aCons, dTup, mkT, dLst, mkL, seqOf, lstOf, fAdd, fPlus, dSl, oSome, oNone, asI, fInT, fStr, fIntT, fFmt, dFmt, dJs, fPart, fStarts, fFind, fIsdig, fIsasc, fMulS, fSub, fLt, fGt, fLe, fGe, fEq, fMod, fNeg, fPow, arity, dCall, dCallY, dCallK, dCallX, dSoSetL, dIsi2, fIsi2, noEx, dCB, fGcd, fMax2, fMin2, fInt, dIsi, fIsi, isTy, refOk, dIsN, dNotN, dIsB, dNotB, isNon, isBl, sz_lt, sz_le, sRaise, sTry, collapse_const, endX, dXf, dXis, dBM, dBM0, tTr, fTr, aStar, sRetN, fAbs, sFor, iAny, iRng1, iEn, *])
local macro_rules | `(tactic| walk_at "t") => `(tactic| simp [fnF_eq, sSeq, sSet, sRet, sIf, sDrop, sNil, sAsg, sPar, sPut, F.then_nx, F.then_rt, F.then_bk, F.then_ct, F.then_ex, F.then_bad, F.then_ite, R.lift_ok, R.lift_ex, R.lift_bad, R.lift_ite, R.bind_ok, R.bind_ex, R.bind_bad, R.bind_ite, F.fin_nx, F.fin_rt, F.fin_ex, F.fin_bad, F.fin_ite, dVar, dC, bin, un, dAnd, dOr, dNot, tB', tAnd', tOr', tNot', dIf, asB_bl, aNil, aCons, dTup, mkT, dLst, mkL, seqOf, lstOf, fAdd, dSl, oSome, oNone, asI, fInT, fStr, fIntT, fFmt, dFmt, dJs, fPart, fStarts, fFind, fIsdig, fIsasc, fMulS, fSub, fLt, fGt, fLe, fGe, fEq, fMod, fNeg, fPow, arity, dCall, dCallY, dCallK, dCallX, dSoSetL, dIsi2, fIsi2, noEx, dCB, fGcd, fMax2, fMin2, fInt, dIsi, fIsi, isTy, refOk, dIsN, dNotN, dIsB, dNotB, isNon, isBl, sz_lt, sz_le, sRaise, sTry, collapse_const, endX, dXf, dXis, dBM, dBM0, tTr, fTr, aStar, sRetN, fAbs, sFor, iAny, iRng1, iEn, *])
namespace K02
theorem is_whole_eq {d : D} {S : Sto} (h : refOk S d = true) : Fis_whole [d] S = .ok (.bl (isTy .int d && !isTy .bool d)) S := by
  unfold Fis_whole
  cases d <;> simp_all [fnF_eq, sRet, R.lift_ok, R.lift_ite, R.bind_ok, R.bind_ite, dVar, dAnd, dNot, dIsi, fIsi, isTy, asB_bl, F.fin_rt]
theorem law_whole_eq {d : D} {S : Sto} (h : refOk S d = true) : F_law_whole [d] S = .ok (.bl (isTy .int d && !isTy .bool d)) S := by
  unfold F_law_whole
  cases d <;> simp_all [fnF_eq, sRet, R.lift_ok, R.lift_ite, R.bind_ok, R.bind_ite, dVar, dAnd, dNot, dIsi, fIsi, isTy, asB_bl, F.fin_rt]
theorem is_tuple_of_eq {n : Int} {d : D} {S : Sto} (h : refOk S d = true) : Fis_tuple_of [.int n, d] S = .ok (.bl (match d with | .tup xs => decide ((xs.length : Int) = n) | _ => false)) S := by
  unfold Fis_tuple_of
  cases d <;> simp_all [fnF_eq, sRet, R.lift_ok, R.lift_ite, R.bind_ok, R.bind_ite, dVar, dAnd, dNot, dIsi, fIsi, isTy, asB_bl, F.fin_rt, dCB, aCons, aNil, fLen, seqOf, bin, fEq]
/-- a value whose lists stand, and so do those of its items -/
structure Ok1 (S : Sto) (d : D) : Prop where
  r : refOk S d = true
  i : ∀ xs, d = .tup xs → ∀ x ∈ xs, refOk S x = true
def edgeB : D → Bool
  | .tup [.int _, .int r] => decide (r = 0 ∨ r = 1)
  | _ => false
theorem tup2 {xs : List D} (h : xs.length = 2) : ∃ a b, xs = [a, b] := by
  match xs, h with
  | [a, b], _ => exact ⟨a, b, rfl⟩
theorem in01 (i : Int) (S : Sto) : fIn false (.int i) (.tup [.int 0, .int 1]) S = .ok (.bl (decide (i = 0 ∨ i = 1))) S := by
  have e : L2.inV (L2.V.int i) [L2.V.int 0, L2.V.int 1] = decide (i = 0 ∨ i = 1) := by
    by_cases h0 : i = 0
    · subst h0; decide
    · by_cases h1 : i = 1
      · subst h1; decide
      · simp [L2.inV, L2.eqV, h0, h1]
        exact ⟨fun e => h0 e.symm, fun e => h1 e.symm⟩
  show R.ok (D.bl (if false = true then _ else L2.inV (L2.V.int i) [L2.V.int 0, L2.V.int 1])) S = _
  rw [e]; rfl
theorem is_edge_eq {d : D} {S : Sto} (h : Ok1 S d) : Fis_edge [d] S = .ok (.bl (edgeB d)) S := by
  have ht := is_tuple_of_eq (n := 2) h.r
  unfold Fis_edge
  cases d with
  | tup xs =>
    by_cases hl : xs.length = 2
    · obtain ⟨a, b, rfl⟩ := tup2 hl
      have ha := h.i _ rfl a (by simp)
      have hb := h.i _ rfl b (by simp)
      have wa := is_whole_eq ha
      have wb := is_whole_eq hb
      have ht2 : Fis_tuple_of [.int 2, .tup [a, b]] S = .ok (.bl true) S := by rw [ht]; simp
      clear ht h
      cases a <;> cases b <;> simp only [isTy] at wa wb <;> walk_at "z" <;> first | (rw [in01]; simp [edgeB, F.fin_rt, R.lift_ok]; done) | rfl | (simp [edgeB]; done) | (simp [edgeB]; rfl) | skip
    · have ht2 : Fis_tuple_of [.int 2, .tup xs] S = .ok (.bl false) S := by
        rw [ht]
        have : ¬ ((xs.length : Int) = 2) := by omega
        simp [this]
      have he : edgeB (.tup xs) = false := by
        match xs, hl with
        | [], _ => rfl
        | [a], _ => cases a <;> rfl
        | [a, b], h => exact absurd rfl h
        | a :: b :: c :: r, _ => cases a <;> cases b <;> rfl
      clear ht h
      rw [he]
      walk_at "z"
  | _ =>
    simp only at ht
    clear h
    walk_at "z"
    try rfl
end K02
end

section
set_option Elab.async false
set_option linter.all false
set_option maxRecDepth 100000
set_option maxHeartbeats 1000000
open Z
local macro_rules | `(tactic| walk_at "z") => `(tactic| simp [fnF_eq, sSeq, sSet, sRet, sIf, sDrop, sNil, sAsg, sPar, sPut, F.then_nx, F.then_rt, F.then_bk, F.then_ct, F.then_ex, F.then_bad, F.then_ite, R.lift_ok, R.lift_ex, R.lift_bad, R.lift_ite, R.bind_ok, R.bind_ex, R.bind_bad, R.bind_ite, F.fin_nx, F.fin_rt, F.fin_ex, F.fin_bad, F.fin_ite, dVar, dC, bin, un, dAnd, dOr, dNot, tB', tAnd', tOr', tNot', dIf, asB_bl, aNil, aCons, dTup, mkT, dLst, mkL, fIx, seqOf, lstOf, L2.atI, L2.ixN, fAdd, fPlus, dSl, oSome, oNone, asI, fSl, fInT, fStr, fIntT, fFmt, dFmt, dJs, fPart, fStarts, fFind, fIsdig, fIsasc, fMulS, fSub, fMul, fLt, fGt, fLe, fGe, fEq, fDiv, fMod, fNeg, fPow, arity, dCall, dCallY, dCallK, dCallX, dSoSetL, dIsi2, fIsi2, noEx, dCB, fGcd, fLen, fMax2, fMin2, fInt, gN, gT, gAll, dIsi, fIsi, isTy, refOk, dIsN, dNotN, dIsB, dNotB, isNon, isBl, sz_lt, sz_le, sRaise, sTry, collapse_const, endX, dXf, dXis, dBM, dBM0, fPop, fApp, fRevM, fIns, fPopAt, tTr, fTr, aStar, dSoSet, sRetN, fTuple, fAbs, tyD, *])
local macro_rules | `(tactic| walk_at "y") => `(tactic| simp [fnF_eq, sSeq, sSet, sRet, sIf, sDrop, sNil, sAsg, sPar, sPut, F.then_nx, F.then_rt, F.then_bk, F.then_ct, F.then_ex, F.then_bad, F.then_ite, R.lift_ok, R.lift_ex, R.lift_bad, R.lift_ite, R.bind_ok, R.bind_ex, R.bind_bad, R.bind_ite, F.fin_nx, F.fin_rt, F.fin_ex, F.fin_bad, F.fin_ite, dVar, dC, bin, un, dAnd, dOr, dNot, tB', tAnd', tOr', tNot', dIf, asB_bl, aNil, aCons, dTup, mkT, dLst, mkL, fIx, seqOf, lstOf, L2.atI, L2.ixN, fAdd, fPlus, dSl, oSome, oNone, asI, fSl, fInT, fStr, fIntT, fFmt, dFmt, dJs, fPart, fStarts, fFind, fIsdig, fIsasc, fMulS, fSub, fMul, fLt, fGt, fLe, fGe, fEq, fDiv, fMod, fNeg, fPow, arity, dCall, dCallY, dCallK, dCallX, dSoSetL, dIsi2, fIsi2, noEx, dCB, fGcd, fLen, fMax2, fMin2, fInt, sFor, iRng1, fRng1, iSeq, asSeq, iAny, asAny, dIsi, fIsi, isTy, refOk, dIsN, dNotN, dIsB, dNotB, isNon, isBl, sz_lt, sz_le, sRaise, sTry, collapse_const, endX, dXf, dXis, dBM, dBM0, fPop, fApp, fRevM, fIns, fPopAt, tTr, fTr, aStar, dSoSet, sRetN, fTuple, fAbs, tyD, *])
local macro_rules | `(tactic| walk_at "v") => `(tactic| simp [fnF_eq, sSeq, sSet, sRet, sIf, sDrop, sNil, sAsg, sPar, sPut, F.then_nx, F.then_rt, F.then_bk, F.then_ct, F.then_ex, F.then_bad, F.then_ite, R.lift_ok, R.lift_ex, R.lift_bad, R.lift_ite, R.bind_ok, R.bind_ex, R.bind_bad, R.bind_ite, F.fin_nx, F.fin_rt, F.fin_ex, F.fin_bad, F.fin_ite, dVar, dC, bin, un, dAnd, dOr, dNot, tB', tAnd', tOr', tNot', dIf, asB_bl, aNil, aCons, dTup, mkT, dLst, mkL, seqOf, lstOf, fAdd, fPlus, dSl, oSome, oNone, asI, fInT, fStr, fIntT, fFmt, dFmt, dJs, fPart, fStarts, fFind, fIsdig, fIsasc, fMulS, fSub, fLt, fGt, fLe, fGe, fEq, fMod, fNeg, fPow, arity, dCall, dCallY, dCallK, dCallX, dSoSetL, dIsi2, fIsi2, noEx, dCB, fGcd, fMax2, fMin2, fInt, gN, gT, gAll, dIsi, fIsi, isTy, refOk, dIsN, dNotN, dIsB, dNotB, isNon, isBl, sz_lt, sz_le, sRaise, sTry, collapse_const, endX, dXf, dXis, dBM, dBM0, tTr, fTr, aStar, sRetN, fAbs, *])
local macro_rules | `(tactic| walk_at "u") => `(tactic| simp [fnF_eq, sSeq, sSet, sRet, sIf, sDrop, sNil, sAsg, sPar, sPut, F.then_nx, F.then_rt, F.then_bk, F.then_ct, F.then_ex, F.then_bad, F.then_ite, R.lift_ok, R.lift_ex, R.lift_bad, R.lift_ite, R.bind_ok, R.bind_ex, R.bind_bad, R.bind_ite, F.fin_nx, F.fin_rt, F.fin_ex, F.fin_bad, F.fin_ite, dVar, dC, bin, un, dAnd, dOr, dNot, tB', tAnd', tOr', tNot', dIf, asB_bl, aNil, aCons, dTup, mkT, dLst, mkL, seqOf, lstOf, fAdd, fPlus, dSl, oSome, oNone, asI, fInT, fStr, fIntT, fFmt, dFmt, dJs, fPart, fStarts, fFind, fIsdig, fIsasc, fMulS, fSub, fLt, fGt, fLe, fGe, fEq, fMod, fNeg, fPow, arity, dCall, dCallY, dCallK, dCallX, dSoSetL, dIsi2, fIsi2, noEx, dCB, fGcd, fMax2, fMin2, fInt, dIsi, fIsi, isTy, refOk, dIsN, dNotN, dIsB, dNotB, isNon, isBl, sz_lt, sz_le, sRaise, sTry, collapse_const, endX, dXf, dXis, dBM, dBM0, tTr, fTr, aStar, sRetN, fAbs, sFor, iAny, iRng1, iEn, *])
local macro_rules | `(tactic| walk_at "t") => `(tactic| simp [fnF_eq, sSeq, sSet, sRet, sIf, sDrop, sNil, sAsg, sPar, sPut, F.then_nx, F.then_rt, F.then_bk, F.then_ct, F.then_ex, F.then_bad, F.then_ite, R.lift_ok, R.lift_ex, R.lift_bad, R.lift_ite, R.bind_ok, R.bind_ex, R.bind_bad, R.bind_ite, F.fin_nx, F.fin_rt, F.fin_ex, F.fin_bad, F.fin_ite, dVar, dC, bin, un, dAnd, dOr, dNot, tB', tAnd', tOr', tNot', dIf, asB_bl, aNil, aCons, dTup, mkT, dLst, mkL, seqOf, lstOf, fAdd, dSl, oSome, oNone, asI, fInT, fStr, fIntT, fFmt, dFmt, dJs, fPart, fStarts, fFind, fIsdig, fIsasc, fMulS, fSub, fLt, fGt, fLe, fGe, fEq, fMod, fNeg, fPow, arity, dCall, dCallY, dCallK, dCallX, dSoSetL, dIsi2, fIsi2, noEx, dCB, fGcd, fMax2, fMin2, fInt, dIsi, fIsi, isTy, refOk, dIsN, dNotN, dIsB, dNotB, isNon, isBl, sz_lt, sz_le, sRaise, sTry, collapse_const, endX, dXf, dXis, dBM, dBM0, tTr, fTr, aStar, sRetN, fAbs, sFor, iAny, iRng1, iEn, *])
namespace K02
theorem law_edge_eq {d : D} {S : Sto} (h : Ok1 S d) : F_law_edge [d] S = .ok (.bl (edgeB d)) S := by
  unfold F_law_edge
  cases d with
  | tup xs =>
    by_cases hl : xs.length = 2
    · obtain ⟨a, b, rfl⟩ := tup2 hl
      have ha := h.i _ rfl a (by simp)
      have hb := h.i _ rfl b (by simp)
      have wa := law_whole_eq ha
      have wb := law_whole_eq hb
      clear h
      cases a <;> cases b <;> simp only [isTy] at wa wb <;> walk_at "z" <;> first | rfl | (simp [edgeB]; done) | (simp [edgeB]; rfl) | (rename_i i j; by_cases h0 : j = 0 <;> by_cases h1 : j = 1 <;> simp [edgeB, h0, h1] <;> rfl) | skip
    · have he : edgeB (.tup xs) = false := by
        match xs, hl with
        | [], _ => rfl
        | [a], _ => cases a <;> rfl
        | [a, b], h => exact absurd rfl h
        | a :: b :: c :: r, _ => cases a <;> cases b <;> rfl
      have hn : ¬ ((xs.length : Int) = 2) := by omega
      clear h
      rw [he]
      walk_at "z"
  | _ =>
    have hr := h.r
    clear h
    simp only [refOk] at hr
    first | (exact absurd hr (by decide)) | (walk_at "z"; done) | (walk_at "z"; rfl)
def capB (d : D) : Bool := isNon d || edgeB d
theorem is_cap_eq {d : D} {S : Sto} (h : Ok1 S d) : Fis_cap [d] S = .ok (.bl (capB d)) S := by
  have e := is_edge_eq h
  unfold Fis_cap capB
  clear h
  cases d <;> first | (walk_at "z"; done) | (walk_at "z"; rfl)
theorem law_cap_eq {d : D} {S : Sto} (h : Ok1 S d) : F_law_cap [d] S = .ok (.bl (capB d)) S := by
  have e := law_edge_eq h
  unfold F_law_cap capB
  clear h
  cases d <;> first | (walk_at "z"; done) | (walk_at "z"; rfl)
end K02
end

section
set_option Elab.async false
set_option linter.all false
set_option maxRecDepth 100000
set_option maxHeartbeats 1000000
open Z
local macro_rules | `(tactic| walk_at "z") => `(tactic| simp [fnF_eq, sSeq, sSet, sRet, sIf, sDrop, sNil, sAsg, sPar, sPut, F.then_nx, F.then_rt, F.then_bk, F.then_ct, F.then_ex, F.then_bad, F.then_ite, R.lift_ok, R.lift_ex, R.lift_bad, R.lift_ite, R.bind_ok, R.bind_ex, R.bind_bad, R.bind_ite, F.fin_nx, F.fin_rt, F.fin_ex, F.fin_bad, F.fin_ite, dVar, dC, bin, un, dAnd, dOr, dNot, tB', tAnd', tOr', tNot', dIf, asB_bl, aNil, aCons, dTup, mkT, dLst, mkL, fIx, seqOf, lstOf, L2.atI, L2.ixN, fAdd, fPlus, dSl, oSome, oNone, asI, fSl, fInT, fStr, fIntT, fFmt, dFmt, dJs, fPart, fStarts, fFind, fIsdig, fIsasc, fMulS, fSub, fMul, fLt, fGt, fLe, fGe, fEq, fDiv, fMod, fNeg, fPow, arity, dCall, dCallY, dCallK, dCallX, dSoSetL, dIsi2, fIsi2, noEx, dCB, fGcd, fLen, fMax2, fMin2, fInt, gN, gT, gAll, dIsi, fIsi, isTy, refOk, dIsN, dNotN, dIsB, dNotB, isNon, isBl, sz_lt, sz_le, sRaise, sTry, collapse_const, endX, dXf, dXis, dBM, dBM0, fPop, fApp, fRevM, fIns, fPopAt, tTr, fTr, aStar, dSoSet, sRetN, fTuple, fAbs, tyD, *])
local macro_rules | `(tactic| walk_at "y") => `(tactic| simp [fnF_eq, sSeq, sSet, sRet, sIf, sDrop, sNil, sAsg, sPar, sPut, F.then_nx, F.then_rt, F.then_bk, F.then_ct, F.then_ex, F.then_bad, F.then_ite, R.lift_ok, R.lift_ex, R.lift_bad, R.lift_ite, R.bind_ok, R.bind_ex, R.bind_bad, R.bind_ite, F.fin_nx, F.fin_rt, F.fin_ex, F.fin_bad, F.fin_ite, dVar, dC, bin, un, dAnd, dOr, dNot, tB', tAnd', tOr', tNot', dIf, asB_bl, aNil, aCons, dTup, mkT, dLst, mkL, fIx, seqOf, lstOf, L2.atI, L2.ixN, fAdd, fPlus, dSl, oSome, oNone, asI, fSl, fInT, fStr, fIntT, fFmt, dFmt, dJs, fPart, fStarts, fFind, fIsdig, fIsasc, fMulS, fSub, fMul, fLt, fGt, fLe, fGe, fEq, fDiv, fMod, fNeg, fPow, arity, dCall, dCallY, dCallK, dCallX, dSoSetL, dIsi2, fIsi2, noEx, dCB, fGcd, fLen, fMax2, fMin2, fInt, sFor, iRng1, fRng1, iSeq, asSeq, iAny, asAny, dIsi, fIsi, isTy, refOk, dIsN, dNotN, dIsB, dNotB, isNon, isBl, sz_lt, sz_le, sRaise, sTry, collapse_const, endX, dXf, dXis, dBM, dBM0, fPop, fApp, fRevM, fIns, fPopAt, tTr, fTr, aStar, dSoSet, sRetN, fTuple, fAbs, tyD, *])
local macro_rules | `(tactic| walk_at "v") => `(tactic| simp [fnF_eq, sSeq, sSet, sRet, sIf, sDrop, sNil, sAsg, sPar, sPut, F.then_nx, F.then_rt, F.then_bk, F.then_ct, F.then_ex, F.then_bad, F.then_ite, R.lift_ok, R.lift_ex, R.lift_bad, R.lift_ite, R.bind_ok, R.bind_ex, R.bind_bad, R.bind_ite, F.fin_nx, F.fin_rt, F.fin_ex, F.fin_bad, F.fin_ite, dVar, dC, bin, un, dAnd, dOr, dNot, tB', tAnd', tOr', tNot', dIf, asB_bl, aNil, aCons, dTup, mkT, dLst, mkL, seqOf, lstOf, fAdd, fPlus, dSl, oSome, oNone, asI, fInT, fStr, fIntT, fFmt, dFmt, dJs, fPart, fStarts, fFind, fIsdig, fIsasc, fMulS, fSub, fLt, fGt, fLe, fGe, fEq, fMod, fNeg, fPow, arity, dCall, dCallY, dCallK, dCallX, dSoSetL, dIsi2, fIsi2, noEx, dCB, fGcd, fMax2, fMin2, fInt, gN, gT, gAll, dIsi, fIsi, isTy, refOk, dIsN, dNotN, dIsB, dNotB, isNon, isBl, sz_lt, sz_le, sRaise, sTry, collapse_const, endX, dXf, dXis, dBM, dBM0, tTr, fTr, aStar, sRetN, fAbs, *])
local macro_rules | `(tactic| walk_at "u") => `(tactic| simp [fnF_eq, sSeq, sSet, sRet, sIf, sDrop, sNil, sAsg, sPar, sPut, F.then_nx, F.then_rt, F.then_bk, F.then_ct, F.then_ex, F.then_bad, F.then_ite, R.lift_ok, R.lift_ex, R.lift_bad, R.lift_ite, R.bind_ok, R.bind_ex, R.bind_bad, R.bind_ite, F.fin_nx, F.fin_rt, F.fin_ex, F.fin_bad, F.fin_ite, dVar, dC, bin, un, dAnd, dOr, dNot, tB', tAnd', tOr', tNot', dIf, asB_bl, aNil, aCons, dTup, mkT, dLst, mkL, seqOf, lstOf, fAdd, fPlus, dSl, oSome, oNone, asI, fInT, fStr, fIntT, fFmt, dFmt, dJs, fPart, fStarts, fFind, fIsdig, fIsasc, fMulS, fSub, fLt, fGt, fLe, fGe, fEq, fMod, fNeg, fPow, arity, dCall, dCallY, dCallK, dCallX, dSoSetL, dIsi2, fIsi2, noEx, dCB, fGcd, fMax2, fMin2, fInt, dIsi, fIsi, isTy, refOk, dIsN, dNotN, dIsB, dNotB, isNon, isBl, sz_lt, sz_le, sRaise, sTry, collapse_const, endX, dXf, dXis, dBM, dBM0, tTr, fTr, aStar, sRetN, fAbs, sFor, iAny, iRng1, iEn, *])
local macro_rules | `(tactic| walk_at "t") => `(tactic| simp [fnF_eq, sSeq, sSet, sRet, sIf, sDrop, sNil, sAsg, sPar, sPut, F.then_nx, F.then_rt, F.then_bk, F.then_ct, F.then_ex, F.then_bad, F.then_ite, R.lift_ok, R.lift_ex, R.lift_bad, R.lift_ite, R.bind_ok, R.bind_ex, R.bind_bad, R.bind_ite, F.fin_nx, F.fin_rt, F.fin_ex, F.fin_bad, F.fin_ite, dVar, dC, bin, un, dAnd, dOr, dNot, tB', tAnd', tOr', tNot', dIf, asB_bl, aNil, aCons, dTup, mkT, dLst, mkL, seqOf, lstOf, fAdd, dSl, oSome, oNone, asI, fInT, fStr, fIntT, fFmt, dFmt, dJs, fPart, fStarts, fFind, fIsdig, fIsasc, fMulS, fSub, fLt, fGt, fLe, fGe, fEq, fMod, fNeg, fPow, arity, dCall, dCallY, dCallK, dCallX, dSoSetL, dIsi2, fIsi2, noEx, dCB, fGcd, fMax2, fMin2, fInt, dIsi, fIsi, isTy, refOk, dIsN, dNotN, dIsB, dNotB, isNon, isBl, sz_lt, sz_le, sRaise, sTry, collapse_const, endX, dXf, dXis, dBM, dBM0, tTr, fTr, aStar, sRetN, fAbs, sFor, iAny, iRng1, iEn, *])
namespace K02
def momB : D → Bool
  | .tup [.int p, .int q] => decide (0 ≤ p ∧ 1 ≤ q ∧ g p q = 1)
  | _ => false
theorem is_moment_eq {d : D} {S : Sto} (h : Ok1 S d) : Fis_moment [d] S = .ok (.bl (momB d)) S := by
  have ht := is_tuple_of_eq (n := 2) h.r
  unfold Fis_moment
  cases d with
  | tup xs =>
    by_cases hl : xs.length = 2
    · obtain ⟨a, b, rfl⟩ := tup2 hl
      have ha := h.i _ rfl a (by simp)
      have hb := h.i _ rfl b (by simp)
      have wa := is_whole_eq ha
      have wb := is_whole_eq hb
      have ht2 : Fis_tuple_of [.int 2, .tup [a, b]] S = .ok (.bl true) S := by rw [ht]; simp
      clear ht h
      cases a <;> cases b <;> simp only [isTy] at wa wb <;> first | (walk_at "z"; done) | (walk_at "z"; rfl) | (rename_i p q; by_cases a : 0 ≤ p <;> by_cases b : 1 ≤ q <;> first | (walk_at "z"; simp [momB, a, b]; done) | (walk_at "z"; simp [momB, a, b, g]; done) | (walk_at "z"; simp [momB, a, b]; rfl))
    · have ht2 : Fis_tuple_of [.int 2, .tup xs] S = .ok (.bl false) S := by
        rw [ht]
        have : ¬ ((xs.length : Int) = 2) := by omega
        simp [this]
      have he : momB (.tup xs) = false := by
        match xs, hl with
        | [], _ => rfl
        | [a], _ => cases a <;> rfl
        | [a, b], h => exact absurd rfl h
        | a :: b :: c :: r, _ => cases a <;> cases b <;> rfl
      clear ht h
      rw [he]
      walk_at "z"
  | _ =>
    simp only at ht
    clear h
    first | (walk_at "z"; done) | (walk_at "z"; rfl)
end K02
end

section
set_option Elab.async false
set_option linter.all false
set_option maxRecDepth 100000
set_option maxHeartbeats 1000000
open Z
local macro_rules | `(tactic| walk_at "z") => `(tactic| simp [fnF_eq, sSeq, sSet, sRet, sIf, sDrop, sNil, sAsg, sPar, sPut, F.then_nx, F.then_rt, F.then_bk, F.then_ct, F.then_ex, F.then_bad, F.then_ite, R.lift_ok, R.lift_ex, R.lift_bad, R.lift_ite, R.bind_ok, R.bind_ex, R.bind_bad, R.bind_ite, F.fin_nx, F.fin_rt, F.fin_ex, F.fin_bad, F.fin_ite, dVar, dC, bin, un, dAnd, dOr, dNot, tB', tAnd', tOr', tNot', dIf, asB_bl, aNil, aCons, dTup, mkT, dLst, mkL, fIx, seqOf, lstOf, L2.atI, L2.ixN, fAdd, fPlus, dSl, oSome, oNone, asI, fSl, fInT, fStr, fIntT, fFmt, dFmt, dJs, fPart, fStarts, fFind, fIsdig, fIsasc, fMulS, fSub, fMul, fLt, fGt, fLe, fGe, fEq, fDiv, fMod, fNeg, fPow, arity, dCall, dCallY, dCallK, dCallX, dSoSetL, dIsi2, fIsi2, noEx, dCB, fGcd, fLen, fMax2, fMin2, fInt, gN, gT, gAll, dIsi, fIsi, isTy, refOk, dIsN, dNotN, dIsB, dNotB, isNon, isBl, sz_lt, sz_le, sRaise, sTry, collapse_const, endX, dXf, dXis, dBM, dBM0, fPop, fApp, fRevM, fIns, fPopAt, tTr, fTr, aStar, dSoSet, sRetN, fTuple, fAbs, tyD, *])
local macro_rules | `(tactic| walk_at "y") => `(tactic| simp [fnF_eq, sSeq, sSet, sRet, sIf, sDrop, sNil, sAsg, sPar, sPut, F.then_nx, F.then_rt, F.then_bk, F.then_ct, F.then_ex, F.then_bad, F.then_ite, R.lift_ok, R.lift_ex, R.lift_bad, R.lift_ite, R.bind_ok, R.bind_ex, R.bind_bad, R.bind_ite, F.fin_nx, F.fin_rt, F.fin_ex, F.fin_bad, F.fin_ite, dVar, dC, bin, un, dAnd, dOr, dNot, tB', tAnd', tOr', tNot', dIf, asB_bl, aNil, aCons, dTup, mkT, dLst, mkL, fIx, seqOf, lstOf, L2.atI, L2.ixN, fAdd, fPlus, dSl, oSome, oNone, asI, fSl, fInT, fStr, fIntT, fFmt, dFmt, dJs, fPart, fStarts, fFind, fIsdig, fIsasc, fMulS, fSub, fMul, fLt, fGt, fLe, fGe, fEq, fDiv, fMod, fNeg, fPow, arity, dCall, dCallY, dCallK, dCallX, dSoSetL, dIsi2, fIsi2, noEx, dCB, fGcd, fLen, fMax2, fMin2, fInt, sFor, iRng1, fRng1, iSeq, asSeq, iAny, asAny, dIsi, fIsi, isTy, refOk, dIsN, dNotN, dIsB, dNotB, isNon, isBl, sz_lt, sz_le, sRaise, sTry, collapse_const, endX, dXf, dXis, dBM, dBM0, fPop, fApp, fRevM, fIns, fPopAt, tTr, fTr, aStar, dSoSet, sRetN, fTuple, fAbs, tyD, *])
local macro_rules | `(tactic| walk_at "v") => `(tactic| simp [fnF_eq, sSeq, sSet, sRet, sIf, sDrop, sNil, sAsg, sPar, sPut, F.then_nx, F.then_rt, F.then_bk, F.then_ct, F.then_ex, F.then_bad, F.then_ite, R.lift_ok, R.lift_ex, R.lift_bad, R.lift_ite, R.bind_ok, R.bind_ex, R.bind_bad, R.bind_ite, F.fin_nx, F.fin_rt, F.fin_ex, F.fin_bad, F.fin_ite, dVar, dC, bin, un, dAnd, dOr, dNot, tB', tAnd', tOr', tNot', dIf, asB_bl, aNil, aCons, dTup, mkT, dLst, mkL, seqOf, lstOf, fAdd, fPlus, dSl, oSome, oNone, asI, fInT, fStr, fIntT, fFmt, dFmt, dJs, fPart, fStarts, fFind, fIsdig, fIsasc, fMulS, fSub, fLt, fGt, fLe, fGe, fEq, fMod, fNeg, fPow, arity, dCall, dCallY, dCallK, dCallX, dSoSetL, dIsi2, fIsi2, noEx, dCB, fGcd, fMax2, fMin2, fInt, gN, gT, gAll, dIsi, fIsi, isTy, refOk, dIsN, dNotN, dIsB, dNotB, isNon, isBl, sz_lt, sz_le, sRaise, sTry, collapse_const, endX, dXf, dXis, dBM, dBM0, tTr, fTr, aStar, sRetN, fAbs, *])
local macro_rules | `(tactic| walk_at "u") => `(tactic| simp [fnF_eq, sSeq, sSet, sRet, sIf, sDrop, sNil, sAsg, sPar, sPut, F.then_nx, F.then_rt, F.then_bk, F.then_ct, F.then_ex, F.then_bad, F.then_ite, R.lift_ok, R.lift_ex, R.lift_bad, R.lift_ite, R.bind_ok, R.bind_ex, R.bind_bad, R.bind_ite, F.fin_nx, F.fin_rt, F.fin_ex, F.fin_bad, F.fin_ite, dVar, dC, bin, un, dAnd, dOr, dNot, tB', tAnd', tOr', tNot', dIf, asB_bl, aNil, aCons, dTup, mkT, dLst, mkL, seqOf, lstOf, fAdd, fPlus, dSl, oSome, oNone, asI, fInT, fStr, fIntT, fFmt, dFmt, dJs, fPart, fStarts, fFind, fIsdig, fIsasc, fMulS, fSub, fLt, fGt, fLe, fGe, fEq, fMod, fNeg, fPow, arity, dCall, dCallY, dCallK, dCallX, dSoSetL, dIsi2, fIsi2, noEx, dCB, fGcd, fMax2, fMin2, fInt, dIsi, fIsi, isTy, refOk, dIsN, dNotN, dIsB, dNotB, isNon, isBl, sz_lt, sz_le, sRaise, sTry, collapse_const, endX, dXf, dXis, dBM, dBM0, tTr, fTr, aStar, sRetN, fAbs, sFor, iAny, iRng1, iEn, *])
local macro_rules | `(tactic| walk_at "t") => `(tactic| simp [fnF_eq, sSeq, sSet, sRet, sIf, sDrop, sNil, sAsg, sPar, sPut, F.then_nx, F.then_rt, F.then_bk, F.then_ct, F.then_ex, F.then_bad, F.then_ite, R.lift_ok, R.lift_ex, R.lift_bad, R.lift_ite, R.bind_ok, R.bind_ex, R.bind_bad, R.bind_ite, F.fin_nx, F.fin_rt, F.fin_ex, F.fin_bad, F.fin_ite, dVar, dC, bin, un, dAnd, dOr, dNot, tB', tAnd', tOr', tNot', dIf, asB_bl, aNil, aCons, dTup, mkT, dLst, mkL, seqOf, lstOf, fAdd, dSl, oSome, oNone, asI, fInT, fStr, fIntT, fFmt, dFmt, dJs, fPart, fStarts, fFind, fIsdig, fIsasc, fMulS, fSub, fLt, fGt, fLe, fGe, fEq, fMod, fNeg, fPow, arity, dCall, dCallY, dCallK, dCallX, dSoSetL, dIsi2, fIsi2, noEx, dCB, fGcd, fMax2, fMin2, fInt, dIsi, fIsi, isTy, refOk, dIsN, dNotN, dIsB, dNotB, isNon, isBl, sz_lt, sz_le, sRaise, sTry, collapse_const, endX, dXf, dXis, dBM, dBM0, tTr, fTr, aStar, sRetN, fAbs, sFor, iAny, iRng1, iEn, *])
namespace K02
theorem law_moment_eq {d : D} {S : Sto} (h : Ok1 S d) (hs : ∀ p q, d = .tup [.int p, .int q] → sm 249 q) : F_law_moment [d] S = .ok (.bl (momB d)) S := by
  unfold F_law_moment
  cases d with
  | tup xs =>
    by_cases hl : xs.length = 2
    · obtain ⟨a, b, rfl⟩ := tup2 hl
      have ha := h.i _ rfl a (by simp)
      have hb := h.i _ rfl b (by simp)
      have wa := law_whole_eq ha
      have wb := law_whole_eq hb
      clear h
      have hq : ∀ p q, a = .int p → b = .int q → sm 249 q := fun p q e1 e2 => hs p q (by rw [e1, e2])
      clear hs
      cases a <;> cases b <;> simp only [isTy] at wa wb <;> first | (clear hq; walk_at "z"; done) | (clear hq; walk_at "z"; rfl) | skip
      rename_i p q
      have hk := hq p q rfl rfl
      clear hq
      by_cases h1 : 0 ≤ p
      · by_cases h2 : 1 ≤ q
        · have hg := law_gcd_eq (S := S) h1 (by omega : 0 ≤ q) hk
          clear hk
          walk_at "z"
          simp [momB, h1, h2]
        · clear hk
          walk_at "z"
          simp [momB, h1, h2]
      · clear hk
        walk_at "z"
        simp [momB, h1]
    · have he : momB (.tup xs) = false := by
        match xs, hl with
        | [], _ => rfl
        | [a], _ => cases a <;> rfl
        | [a, b], h => exact absurd rfl h
        | a :: b :: c :: r, _ => cases a <;> cases b <;> rfl
      have hn : ¬ ((xs.length : Int) = 2) := by omega
      clear h hs
      rw [he]
      walk_at "z"
  | _ =>
    have hr := h.r
    clear h hs
    simp only [refOk] at hr
    first | (exact absurd hr (by decide)) | (walk_at "z"; done) | (walk_at "z"; rfl)
end K02
end

section
set_option Elab.async false
set_option linter.all false
set_option maxRecDepth 100000
set_option maxHeartbeats 1000000
open Z
local macro_rules | `(tactic| walk_at "z") => `(tactic| simp [fnF_eq, sSeq, sSet, sRet, sIf, sDrop, sNil, sAsg, sPar, sPut, F.then_nx, F.then_rt, F.then_bk, F.then_ct, F.then_ex, F.then_bad, F.then_ite, R.lift_ok, R.lift_ex, R.lift_bad, R.lift_ite, R.bind_ok, R.bind_ex, R.bind_bad, R.bind_ite, F.fin_nx, F.fin_rt, F.fin_ex, F.fin_bad, F.fin_ite, dVar, dC, bin, un, dAnd, dOr, dNot, tB', tAnd', tOr', tNot', dIf, asB_bl, aNil, aCons, dTup, mkT, dLst, mkL, fIx, seqOf, lstOf, L2.atI, L2.ixN, fAdd, fPlus, dSl, oSome, oNone, asI, fSl, fInT, fStr, fIntT, fFmt, dFmt, dJs, fPart, fStarts, fFind, fIsdig, fIsasc, fMulS, fSub, fMul, fLt, fGt, fLe, fGe, fEq, fDiv, fMod, fNeg, fPow, arity, dCall, dCallY, dCallK, dCallX, dSoSetL, dIsi2, fIsi2, noEx, dCB, fGcd, fLen, fMax2, fMin2, fInt, gN, gT, gAll, dIsi, fIsi, isTy, refOk, dIsN, dNotN, dIsB, dNotB, isNon, isBl, sz_lt, sz_le, sRaise, sTry, collapse_const, endX, dXf, dXis, dBM, dBM0, fPop, fApp, fRevM, fIns, fPopAt, tTr, fTr, aStar, dSoSet, sRetN, fTuple, fAbs, tyD, *])
local macro_rules | `(tactic| walk_at "y") => `(tactic| simp [fnF_eq, sSeq, sSet, sRet, sIf, sDrop, sNil, sAsg, sPar, sPut, F.then_nx, F.then_rt, F.then_bk, F.then_ct, F.then_ex, F.then_bad, F.then_ite, R.lift_ok, R.lift_ex, R.lift_bad, R.lift_ite, R.bind_ok, R.bind_ex, R.bind_bad, R.bind_ite, F.fin_nx, F.fin_rt, F.fin_ex, F.fin_bad, F.fin_ite, dVar, dC, bin, un, dAnd, dOr, dNot, tB', tAnd', tOr', tNot', dIf, asB_bl, aNil, aCons, dTup, mkT, dLst, mkL, fIx, seqOf, lstOf, L2.atI, L2.ixN, fAdd, fPlus, dSl, oSome, oNone, asI, fSl, fInT, fStr, fIntT, fFmt, dFmt, dJs, fPart, fStarts, fFind, fIsdig, fIsasc, fMulS, fSub, fMul, fLt, fGt, fLe, fGe, fEq, fDiv, fMod, fNeg, fPow, arity, dCall, dCallY, dCallK, dCallX, dSoSetL, dIsi2, fIsi2, noEx, dCB, fGcd, fLen, fMax2, fMin2, fInt, sFor, iRng1, fRng1, iSeq, asSeq, iAny, asAny, dIsi, fIsi, isTy, refOk, dIsN, dNotN, dIsB, dNotB, isNon, isBl, sz_lt, sz_le, sRaise, sTry, collapse_const, endX, dXf, dXis, dBM, dBM0, fPop, fApp, fRevM, fIns, fPopAt, tTr, fTr, aStar, dSoSet, sRetN, fTuple, fAbs, tyD, *])
local macro_rules | `(tactic| walk_at "v") => `(tactic| simp [fnF_eq, sSeq, sSet, sRet, sIf, sDrop, sNil, sAsg, sPar, sPut, F.then_nx, F.then_rt, F.then_bk, F.then_ct, F.then_ex, F.then_bad, F.then_ite, R.lift_ok, R.lift_ex, R.lift_bad, R.lift_ite, R.bind_ok, R.bind_ex, R.bind_bad, R.bind_ite, F.fin_nx, F.fin_rt, F.fin_ex, F.fin_bad, F.fin_ite, dVar, dC, bin, un, dAnd, dOr, dNot, tB', tAnd', tOr', tNot', dIf, asB_bl, aNil, aCons, dTup, mkT, dLst, mkL, seqOf, lstOf, fAdd, fPlus, dSl, oSome, oNone, asI, fInT, fStr, fIntT, fFmt, dFmt, dJs, fPart, fStarts, fFind, fIsdig, fIsasc, fMulS, fSub, fLt, fGt, fLe, fGe, fEq, fMod, fNeg, fPow, arity, dCall, dCallY, dCallK, dCallX, dSoSetL, dIsi2, fIsi2, noEx, dCB, fGcd, fMax2, fMin2, fInt, gN, gT, gAll, dIsi, fIsi, isTy, refOk, dIsN, dNotN, dIsB, dNotB, isNon, isBl, sz_lt, sz_le, sRaise, sTry, collapse_const, endX, dXf, dXis, dBM, dBM0, tTr, fTr, aStar, sRetN, fAbs, *])
local macro_rules | `(tactic| walk_at "u") => `(tactic| simp [fnF_eq, sSeq, sSet, sRet, sIf, sDrop, sNil, sAsg, sPar, sPut, F.then_nx, F.then_rt, F.then_bk, F.then_ct, F.then_ex, F.then_bad, F.then_ite, R.lift_ok, R.lift_ex, R.lift_bad, R.lift_ite, R.bind_ok, R.bind_ex, R.bind_bad, R.bind_ite, F.fin_nx, F.fin_rt, F.fin_ex, F.fin_bad, F.fin_ite, dVar, dC, bin, un, dAnd, dOr, dNot, tB', tAnd', tOr', tNot', dIf, asB_bl, aNil, aCons, dTup, mkT, dLst, mkL, seqOf, lstOf, fAdd, fPlus, dSl, oSome, oNone, asI, fInT, fStr, fIntT, fFmt, dFmt, dJs, fPart, fStarts, fFind, fIsdig, fIsasc, fMulS, fSub, fLt, fGt, fLe, fGe, fEq, fMod, fNeg, fPow, arity, dCall, dCallY, dCallK, dCallX, dSoSetL, dIsi2, fIsi2, noEx, dCB, fGcd, fMax2, fMin2, fInt, dIsi, fIsi, isTy, refOk, dIsN, dNotN, dIsB, dNotB, isNon, isBl, sz_lt, sz_le, sRaise, sTry, collapse_const, endX, dXf, dXis, dBM, dBM0, tTr, fTr, aStar, sRetN, fAbs, sFor, iAny, iRng1, iEn, *])
local macro_rules | `(tactic| walk_at "t") => `(tactic| simp [fnF_eq, sSeq, sSet, sRet, sIf, sDrop, sNil, sAsg, sPar, sPut, F.then_nx, F.then_rt, F.then_bk, F.then_ct, F.then_ex, F.then_bad, F.then_ite, R.lift_ok, R.lift_ex, R.lift_bad, R.lift_ite, R.bind_ok, R.bind_ex, R.bind_bad, R.bind_ite, F.fin_nx, F.fin_rt, F.fin_ex, F.fin_bad, F.fin_ite, dVar, dC, bin, un, dAnd, dOr, dNot, tB', tAnd', tOr', tNot', dIf, asB_bl, aNil, aCons, dTup, mkT, dLst, mkL, seqOf, lstOf, fAdd, dSl, oSome, oNone, asI, fInT, fStr, fIntT, fFmt, dFmt, dJs, fPart, fStarts, fFind, fIsdig, fIsasc, fMulS, fSub, fLt, fGt, fLe, fGe, fEq, fMod, fNeg, fPow, arity, dCall, dCallY, dCallK, dCallX, dSoSetL, dIsi2, fIsi2, noEx, dCB, fGcd, fMax2, fMin2, fInt, dIsi, fIsi, isTy, refOk, dIsN, dNotN, dIsB, dNotB, isNon, isBl, sz_lt, sz_le, sRaise, sTry, collapse_const, endX, dXf, dXis, dBM, dBM0, tTr, fTr, aStar, sRetN, fAbs, sFor, iAny, iRng1, iEn, *])
namespace K02
theorem edge_inv {d : D} (h : edgeB d = true) : ∃ l r, d = .tup [.int l, .int r] ∧ (r = 0 ∨ r = 1) := by
  unfold edgeB at h
  split at h
  · rename_i l r
    exact ⟨l, r, rfl, of_decide_eq_true h⟩
  · cases h
/-- two levels deep -/
structure Ok2 (S : Sto) (d : D) : Prop where
  r : refOk S d = true
  i : ∀ xs, d = .tup xs → ∀ x ∈ xs, Ok1 S x
theorem Ok2.o1 {S : Sto} {d : D} (h : Ok2 S d) : Ok1 S d := ⟨h.r, fun xs e x hx => (h.i xs e x hx).r⟩
open Classical in
noncomputable def spanB : D → Bool
  | .tup [.tup [.int l, .int r], b] => edgeB (.tup [.int l, .int r]) && decide (0 ≤ l) && (isNon b || match b with
    | .tup [.int m, .int s] => edgeB (.tup [.int m, .int s]) && decide (l < m ∨ (m = l ∧ s = 1 ∧ r = 1))
    | _ => false)
  | _ => false
theorem has_moment_eq {l r m s : Int} {S : Sto} : Fhas_moment [.tup [.int l, .int r], .tup [.int m, .int s]] S = .ok (.bl (decide (l < m ∨ (m = l ∧ s = 1 ∧ r = 1)))) S := by
  unfold Fhas_moment
  by_cases h1 : l < m
  · walk_at "z"
  · by_cases h2 : m = l
    · subst h2
      by_cases h3 : s = 1 <;> by_cases h4 : r = 1 <;> first | (walk_at "z"; done) | (walk_at "z"; rfl)
    · first | (walk_at "z"; done) | (walk_at "z"; rfl)
theorem span_no {a b : D} (h : edgeB a = false) : spanB (.tup [a, b]) = false := by
  unfold spanB
  split
  · rename_i l r b' e
    cases e
    rw [h]; rfl
  · rfl
theorem is_span_eq {d : D} {S : Sto} (h : Ok2 S d) : Fis_span [d] S = .ok (.bl (spanB d)) S := by
  have ht := is_tuple_of_eq (n := 2) h.r
  cases d with
  | tup xs =>
    by_cases hl : xs.length = 2
    · obtain ⟨a, b, rfl⟩ := tup2 hl
      have ea := is_edge_eq (h.i _ rfl a (by simp))
      have eb := is_edge_eq (h.i _ rfl b (by simp))
      have ht2 : Fis_tuple_of [.int 2, .tup [a, b]] S = .ok (.bl true) S := by rw [ht]; simp
      clear ht h hl
      cases ha : edgeB a with
      | false =>
        rw [ha] at ea
        rw [span_no ha]
        clear ha eb
        unfold Fis_span
        walk_at "z"
      | true =>
        obtain ⟨l, r, rfl, hr⟩ := edge_inv ha
        rw [ha] at ea
        by_cases h0 : 0 ≤ l
        · cases hb : edgeB b with
          | true =>
            obtain ⟨m, s, rfl, hs⟩ := edge_inv hb
            rw [hb] at eb
            have hm := has_moment_eq (l := l) (r := r) (m := m) (s := s) (S := S)
            have e : spanB (.tup [.tup [.int l, .int r], .tup [.int m, .int s]]) = decide (l < m ∨ (m = l ∧ s = 1 ∧ r = 1)) := by
              simp only [spanB, ha, hb, isNon, h0, decide_true, Bool.true_and, Bool.false_or]
            rw [e]
            clear e ha hb hr hs
            unfold Fis_span
            walk_at "z"
          | false =>
            rw [hb] at eb
            have e : spanB (.tup [.tup [.int l, .int r], b]) = isNon b := by
              simp only [spanB, ha, h0, decide_true, Bool.true_and]
              split
              · rename_i m s
                rw [hb]; simp
              · simp
            rw [e]
            clear e ha hb hr
            unfold Fis_span
            cases b <;> first | (walk_at "z"; done) | (walk_at "z"; rfl)
        · have e : spanB (.tup [.tup [.int l, .int r], b]) = false := by
            simp [spanB, h0]
          rw [e]
          clear e ha hr eb
          unfold Fis_span
          walk_at "z"
    · have ht2 : Fis_tuple_of [.int 2, .tup xs] S = .ok (.bl false) S := by
        rw [ht]
        have : ¬ ((xs.length : Int) = 2) := by omega
        simp [this]
      have he : spanB (.tup xs) = false := by
        unfold spanB
        split
        · rename_i e
          cases e
          exact absurd rfl hl
        · rfl
      clear ht h
      rw [he]
      unfold Fis_span
      walk_at "z"
  | _ =>
    simp only at ht
    clear h
    unfold Fis_span
    first | (walk_at "z"; done) | (walk_at "z"; rfl)
end K02
end

section
set_option Elab.async false
set_option linter.all false
set_option maxRecDepth 100000
set_option maxHeartbeats 1000000
open Z
local macro_rules | `(tactic| walk_at "z") => `(tactic| simp [fnF_eq, sSeq, sSet, sRet, sIf, sDrop, sNil, sAsg, sPar, sPut, F.then_nx, F.then_rt, F.then_bk, F.then_ct, F.then_ex, F.then_bad, F.then_ite, R.lift_ok, R.lift_ex, R.lift_bad, R.lift_ite, R.bind_ok, R.bind_ex, R.bind_bad, R.bind_ite, F.fin_nx, F.fin_rt, F.fin_ex, F.fin_bad, F.fin_ite, dVar, dC, bin, un, dAnd, dOr, dNot, tB', tAnd', tOr', tNot', dIf, asB_bl, aNil, aCons, dTup, mkT, dLst, mkL, fIx, seqOf, lstOf, L2.atI, L2.ixN, fAdd, fPlus, dSl, oSome, oNone, asI, fSl, fInT, fStr, fIntT, fFmt, dFmt, dJs, fPart, fStarts, fFind, fIsdig, fIsasc, fMulS, fSub, fMul, fLt, fGt, fLe, fGe, fEq, fDiv, fMod, fNeg, fPow, arity, dCall, dCallY, dCallK, dCallX, dSoSetL, dIsi2, fIsi2, noEx, dCB, fGcd, fLen, fMax2, fMin2, fInt, gN, gT, gAll, dIsi, fIsi, isTy, refOk, dIsN, dNotN, dIsB, dNotB, isNon, isBl, sz_lt, sz_le, sRaise, sTry, collapse_const, endX, dXf, dXis, dBM, dBM0, fPop, fApp, fRevM, fIns, fPopAt, tTr, fTr, aStar, dSoSet, sRetN, fTuple, fAbs, tyD, *])
local macro_rules | `(tactic| walk_at "y") => `(tactic| simp [fnF_eq, sSeq, sSet, sRet, sIf, sDrop, sNil, sAsg, sPar, sPut, F.then_nx, F.then_rt, F.then_bk, F.then_ct, F.then_ex, F.then_bad, F.then_ite, R.lift_ok, R.lift_ex, R.lift_bad, R.lift_ite, R.bind_ok, R.bind_ex, R.bind_bad, R.bind_ite, F.fin_nx, F.fin_rt, F.fin_ex, F.fin_bad, F.fin_ite, dVar, dC, bin, un, dAnd, dOr, dNot, tB', tAnd', tOr', tNot', dIf, asB_bl, aNil, aCons, dTup, mkT, dLst, mkL, fIx, seqOf, lstOf, L2.atI, L2.ixN, fAdd, fPlus, dSl, oSome, oNone, asI, fSl, fInT, fStr, fIntT, fFmt, dFmt, dJs, fPart, fStarts, fFind, fIsdig, fIsasc, fMulS, fSub, fMul, fLt, fGt, fLe, fGe, fEq, fDiv, fMod, fNeg, fPow, arity, dCall, dCallY, dCallK, dCallX, dSoSetL, dIsi2, fIsi2, noEx, dCB, fGcd, fLen, fMax2, fMin2, fInt, sFor, iRng1, fRng1, iSeq, asSeq, iAny, asAny, dIsi, fIsi, isTy, refOk, dIsN, dNotN, dIsB, dNotB, isNon, isBl, sz_lt, sz_le, sRaise, sTry, collapse_const, endX, dXf, dXis, dBM, dBM0, fPop, fApp, fRevM, fIns, fPopAt, tTr, fTr, aStar, dSoSet, sRetN, fTuple, fAbs, tyD, *])
local macro_rules | `(tactic| walk_at "v") => `(tactic| simp [fnF_eq, sSeq, sSet, sRet, sIf, sDrop, sNil, sAsg, sPar, sPut, F.then_nx, F.then_rt, F.then_bk, F.then_ct, F.then_ex, F.then_bad, F.then_ite, R.lift_ok, R.lift_ex, R.lift_bad, R.lift_ite, R.bind_ok, R.bind_ex, R.bind_bad, R.bind_ite, F.fin_nx, F.fin_rt, F.fin_ex, F.fin_bad, F.fin_ite, dVar, dC, bin, un, dAnd, dOr, dNot, tB', tAnd', tOr', tNot', dIf, asB_bl, aNil, aCons, dTup, mkT, dLst, mkL, seqOf, lstOf, fAdd, fPlus, dSl, oSome, oNone, asI, fInT, fStr, fIntT, fFmt, dFmt, dJs, fPart, fStarts, fFind, fIsdig, fIsasc, fMulS, fSub, fLt, fGt, fLe, fGe, fEq, fMod, fNeg, fPow, arity, dCall, dCallY, dCallK, dCallX, dSoSetL, dIsi2, fIsi2, noEx, dCB, fGcd, fMax2, fMin2, fInt, gN, gT, gAll, dIsi, fIsi, isTy, refOk, dIsN, dNotN, dIsB, dNotB, isNon, isBl, sz_lt, sz_le, sRaise, sTry, collapse_const, endX, dXf, dXis, dBM, dBM0, tTr, fTr, aStar, sRetN, fAbs, *])
local macro_rules | `(tactic| walk_at "u") => `(tactic| simp [fnF_eq, sSeq, sSet, sRet, sIf, sDrop, sNil, sAsg, sPar, sPut, F.then_nx, F.then_rt, F.then_bk, F.then_ct, F.then_ex, F.then_bad, F.then_ite, R.lift_ok, R.lift_ex, R.lift_bad, R.lift_ite, R.bind_ok, R.bind_ex, R.bind_bad, R.bind_ite, F.fin_nx, F.fin_rt, F.fin_ex, F.fin_bad, F.fin_ite, dVar, dC, bin, un, dAnd, dOr, dNot, tB', tAnd', tOr', tNot', dIf, asB_bl, aNil, aCons, dTup, mkT, dLst, mkL, seqOf, lstOf, fAdd, fPlus, dSl, oSome, oNone, asI, fInT, fStr, fIntT, fFmt, dFmt, dJs, fPart, fStarts, fFind, fIsdig, fIsasc, fMulS, fSub, fLt, fGt, fLe, fGe, fEq, fMod, fNeg, fPow, arity, dCall, dCallY, dCallK, dCallX, dSoSetL, dIsi2, fIsi2, noEx, dCB, fGcd, fMax2, fMin2, fInt, dIsi, fIsi, isTy, refOk, dIsN, dNotN, dIsB, dNotB, isNon, isBl, sz_lt, sz_le, sRaise, sTry, collapse_const, endX, dXf, dXis, dBM, dBM0, tTr, fTr, aStar, sRetN, fAbs, sFor, iAny, iRng1, iEn, *])
local macro_rules | `(tactic| walk_at "t") => `(tactic| simp [fnF_eq, sSeq, sSet, sRet, sIf, sDrop, sNil, sAsg, sPar, sPut, F.then_nx, F.then_rt, F.then_bk, F.then_ct, F.then_ex, F.then_bad, F.then_ite, R.lift_ok, R.lift_ex, R.lift_bad, R.lift_ite, R.bind_ok, R.bind_ex, R.bind_bad, R.bind_ite, F.fin_nx, F.fin_rt, F.fin_ex, F.fin_bad, F.fin_ite, dVar, dC, bin, un, dAnd, dOr, dNot, tB', tAnd', tOr', tNot', dIf, asB_bl, aNil, aCons, dTup, mkT, dLst, mkL, seqOf, lstOf, fAdd, dSl, oSome, oNone, asI, fInT, fStr, fIntT, fFmt, dFmt, dJs, fPart, fStarts, fFind, fIsdig, fIsasc, fMulS, fSub, fLt, fGt, fLe, fGe, fEq, fMod, fNeg, fPow, arity, dCall, dCallY, dCallK, dCallX, dSoSetL, dIsi2, fIsi2, noEx, dCB, fGcd, fMax2, fMin2, fInt, dIsi, fIsi, isTy, refOk, dIsN, dNotN, dIsB, dNotB, isNon, isBl, sz_lt, sz_le, sRaise, sTry, collapse_const, endX, dXf, dXis, dBM, dBM0, tTr, fTr, aStar, sRetN, fAbs, sFor, iAny, iRng1, iEn, *])
namespace K02
theorem law_span_eq {d : D} {S : Sto} (h : Ok2 S d) : F_law_span [d] S = .ok (.bl (spanB d)) S := by
  cases d with
  | tup xs =>
    by_cases hl : xs.length = 2
    · obtain ⟨a, b, rfl⟩ := tup2 hl
      have ea := law_edge_eq (h.i _ rfl a (by simp))
      have eb := law_edge_eq (h.i _ rfl b (by simp))
      clear h hl
      cases ha : edgeB a with
      | false =>
        rw [ha] at ea
        rw [span_no ha]
        clear ha eb
        unfold F_law_span
        walk_at "z"
      | true =>
        obtain ⟨l, r, rfl, hr⟩ := edge_inv ha
        rw [ha] at ea
        by_cases h0 : 0 ≤ l
        · cases hb : edgeB b with
          | true =>
            obtain ⟨m, s, rfl, hs⟩ := edge_inv hb
            rw [hb] at eb
            have e : spanB (.tup [.tup [.int l, .int r], .tup [.int m, .int s]]) = decide (l < m ∨ (m = l ∧ s = 1 ∧ r = 1)) := by
              simp only [spanB, ha, hb, isNon, h0, decide_true, Bool.true_and, Bool.false_or]
            rw [e]
            clear e ha hb hr hs
            unfold F_law_span
            by_cases h2 : m = l
            · subst h2
              by_cases h3 : s = 1
              · subst h3
                by_cases h4 : r = 1
                · subst h4
                  clear ea
                  first | (walk_at "z"; done) | (walk_at "z"; rfl)
                · first | (walk_at "z"; done) | (walk_at "z"; rfl)
              · by_cases h4 : r = 1
                · subst h4
                  first | (walk_at "z"; done) | (walk_at "z"; rfl)
                · first | (walk_at "z"; done) | (walk_at "z"; rfl)
            · have h5 : ¬ l < 0 := by omega
              first | (walk_at "z"; done) | (walk_at "z"; rfl) | (walk_at "z"; intro h6; omega)
          | false =>
            rw [hb] at eb
            have e : spanB (.tup [.tup [.int l, .int r], b]) = isNon b := by
              simp only [spanB, ha, h0, decide_true, Bool.true_and]
              split
              · rename_i m s
                rw [hb]; simp
              · simp
            rw [e]
            clear e ha hb hr
            unfold F_law_span
            cases b <;> first | (walk_at "z"; done) | (walk_at "z"; rfl)
        · have e : spanB (.tup [.tup [.int l, .int r], b]) = false := by
            simp [spanB, h0]
          rw [e]
          clear e ha hr eb
          have h1 : l < 0 := by omega
          clear h0
          unfold F_law_span
          walk_at "z"
    · have he : spanB (.tup xs) = false := by
        unfold spanB
        split
        · rename_i e
          cases e
          exact absurd rfl hl
        · rfl
      have hn : ¬ ((xs.length : Int) = 2) := by omega
      clear h
      rw [he]
      unfold F_law_span
      walk_at "z"
  | _ =>
    have hr := h.r
    clear h
    simp only [refOk] at hr
    unfold F_law_span
    first | (exact absurd hr (by decide)) | (walk_at "z"; done) | (walk_at "z"; rfl)
end K02
end

section
set_option Elab.async false
set_option linter.all false
set_option maxRecDepth 100000
set_option maxHeartbeats 1000000
open Z
local macro_rules | `(tactic| walk_at "z") => `(tactic| simp [fnF_eq, sSeq, sSet, sRet, sIf, sDrop, sNil, sAsg, sPar, sPut, F.then_nx, F.then_rt, F.then_bk, F.then_ct, F.then_ex, F.then_bad, F.then_ite, R.lift_ok, R.lift_ex, R.lift_bad, R.lift_ite, R.bind_ok, R.bind_ex, R.bind_bad, R.bind_ite, F.fin_nx, F.fin_rt, F.fin_ex, F.fin_bad, F.fin_ite, dVar, dC, bin, un, dAnd, dOr, dNot, tB', tAnd', tOr', tNot', dIf, asB_bl, aNil, aCons, dTup, mkT, dLst, mkL, fIx, seqOf, lstOf, L2.atI, L2.ixN, fAdd, fPlus, dSl, oSome, oNone, asI, fSl, fInT, fStr, fIntT, fFmt, dFmt, dJs, fPart, fStarts, fFind, fIsdig, fIsasc, fMulS, fSub, fMul, fLt, fGt, fLe, fGe, fEq, fDiv, fMod, fNeg, fPow, arity, dCall, dCallY, dCallK, dCallX, dSoSetL, dIsi2, fIsi2, noEx, dCB, fGcd, fLen, fMax2, fMin2, fInt, gN, gT, gAll, dIsi, fIsi, isTy, refOk, dIsN, dNotN, dIsB, dNotB, isNon, isBl, sz_lt, sz_le, sRaise, sTry, collapse_const, endX, dXf, dXis, dBM, dBM0, fPop, fApp, fRevM, fIns, fPopAt, tTr, fTr, aStar, dSoSet, sRetN, fTuple, fAbs, tyD, *])
local macro_rules | `(tactic| walk_at "y") => `(tactic| simp [fnF_eq, sSeq, sSet, sRet, sIf, sDrop, sNil, sAsg, sPar, sPut, F.then_nx, F.then_rt, F.then_bk, F.then_ct, F.then_ex, F.then_bad, F.then_ite, R.lift_ok, R.lift_ex, R.lift_bad, R.lift_ite, R.bind_ok, R.bind_ex, R.bind_bad, R.bind_ite, F.fin_nx, F.fin_rt, F.fin_ex, F.fin_bad, F.fin_ite, dVar, dC, bin, un, dAnd, dOr, dNot, tB', tAnd', tOr', tNot', dIf, asB_bl, aNil, aCons, dTup, mkT, dLst, mkL, fIx, seqOf, lstOf, L2.atI, L2.ixN, fAdd, fPlus, dSl, oSome, oNone, asI, fSl, fInT, fStr, fIntT, fFmt, dFmt, dJs, fPart, fStarts, fFind, fIsdig, fIsasc, fMulS, fSub, fMul, fLt, fGt, fLe, fGe, fEq, fDiv, fMod, fNeg, fPow, arity, dCall, dCallY, dCallK, dCallX, dSoSetL, dIsi2, fIsi2, noEx, dCB, fGcd, fLen, fMax2, fMin2, fInt, sFor, iRng1, fRng1, iSeq, asSeq, iAny, asAny, dIsi, fIsi, isTy, refOk, dIsN, dNotN, dIsB, dNotB, isNon, isBl, sz_lt, sz_le, sRaise, sTry, collapse_const, endX, dXf, dXis, dBM, dBM0, fPop, fApp, fRevM, fIns, fPopAt, tTr, fTr, aStar, dSoSet, sRetN, fTuple, fAbs, tyD, *])
local macro_rules | `(tactic| walk_at "v") => `(tactic| simp [fnF_eq, sSeq, sSet, sRet, sIf, sDrop, sNil, sAsg, sPar, sPut, F.then_nx, F.then_rt, F.then_bk, F.then_ct, F.then_ex, F.then_bad, F.then_ite, R.lift_ok, R.lift_ex, R.lift_bad, R.lift_ite, R.bind_ok, R.bind_ex, R.bind_bad, R.bind_ite, F.fin_nx, F.fin_rt, F.fin_ex, F.fin_bad, F.fin_ite, dVar, dC, bin, un, dAnd, dOr, dNot, tB', tAnd', tOr', tNot', dIf, asB_bl, aNil, aCons, dTup, mkT, dLst, mkL, seqOf, lstOf, fAdd, fPlus, dSl, oSome, oNone, asI, fInT, fStr, fIntT, fFmt, dFmt, dJs, fPart, fStarts, fFind, fIsdig, fIsasc, fMulS, fSub, fLt, fGt, fLe, fGe, fEq, fMod, fNeg, fPow, arity, dCall, dCallY, dCallK, dCallX, dSoSetL, dIsi2, fIsi2, noEx, dCB, fGcd, fMax2, fMin2, fInt, gN, gT, gAll, dIsi, fIsi, isTy, refOk, dIsN, dNotN, dIsB, dNotB, isNon, isBl, sz_lt, sz_le, sRaise, sTry, collapse_const, endX, dXf, dXis, dBM, dBM0, tTr, fTr, aStar, sRetN, fAbs, *])
local macro_rules | `(tactic| walk_at "u") => `(tactic| simp [fnF_eq, sSeq, sSet, sRet, sIf, sDrop, sNil, sAsg, sPar, sPut, F.then_nx, F.then_rt, F.then_bk, F.then_ct, F.then_ex, F.then_bad, F.then_ite, R.lift_ok, R.lift_ex, R.lift_bad, R.lift_ite, R.bind_ok, R.bind_ex, R.bind_bad, R.bind_ite, F.fin_nx, F.fin_rt, F.fin_ex, F.fin_bad, F.fin_ite, dVar, dC, bin, un, dAnd, dOr, dNot, tB', tAnd', tOr', tNot', dIf, asB_bl, aNil, aCons, dTup, mkT, dLst, mkL, seqOf, lstOf, fAdd, fPlus, dSl, oSome, oNone, asI, fInT, fStr, fIntT, fFmt, dFmt, dJs, fPart, fStarts, fFind, fIsdig, fIsasc, fMulS, fSub, fLt, fGt, fLe, fGe, fEq, fMod, fNeg, fPow, arity, dCall, dCallY, dCallK, dCallX, dSoSetL, dIsi2, fIsi2, noEx, dCB, fGcd, fMax2, fMin2, fInt, dIsi, fIsi, isTy, refOk, dIsN, dNotN, dIsB, dNotB, isNon, isBl, sz_lt, sz_le, sRaise, sTry, collapse_const, endX, dXf, dXis, dBM, dBM0, tTr, fTr, aStar, sRetN, fAbs, sFor, iAny, iRng1, iEn, *])
local macro_rules | `(tactic| walk_at "t") => `(tactic| simp [fnF_eq, sSeq, sSet, sRet, sIf, sDrop, sNil, sAsg, sPar, sPut, F.then_nx, F.then_rt, F.then_bk, F.then_ct, F.then_ex, F.then_bad, F.then_ite, R.lift_ok, R.lift_ex, R.lift_bad, R.lift_ite, R.bind_ok, R.bind_ex, R.bind_bad, R.bind_ite, F.fin_nx, F.fin_rt, F.fin_ex, F.fin_bad, F.fin_ite, dVar, dC, bin, un, dAnd, dOr, dNot, tB', tAnd', tOr', tNot', dIf, asB_bl, aNil, aCons, dTup, mkT, dLst, mkL, seqOf, lstOf, fAdd, dSl, oSome, oNone, asI, fInT, fStr, fIntT, fFmt, dFmt, dJs, fPart, fStarts, fFind, fIsdig, fIsasc, fMulS, fSub, fLt, fGt, fLe, fGe, fEq, fMod, fNeg, fPow, arity, dCall, dCallY, dCallK, dCallX, dSoSetL, dIsi2, fIsi2, noEx, dCB, fGcd, fMax2, fMin2, fInt, dIsi, fIsi, isTy, refOk, dIsN, dNotN, dIsB, dNotB, isNon, isBl, sz_lt, sz_le, sRaise, sTry, collapse_const, endX, dXf, dXis, dBM, dBM0, tTr, fTr, aStar, sRetN, fAbs, sFor, iAny, iRng1, iEn, *])
namespace K02
theorem row_ge {n : Int} {xs : List D} {S : Sto} (h : ∀ x ∈ xs, Ok1 S x) : dGe false (iAny (dVar 1)) [2] (gN 2) tYesD (dCall (arity 1 Fis_cap) [] (aCons (dVar 2) aNil)) [some (.int n), some (.tup xs), none] S = .ok (.bl (xs.all capB)) S := by
  have e : iAny (dVar 1) [some (.int n), some (.tup xs), none] S = .ok (xs, still (.tup xs) xs) S := by simp [iAny, dVar, R.bind_ok, asAny, asSeq, seqOf]
  unfold dGe
  rw [e, R.bind_ok]
  refine geGo_all trivial capB xs fun x hx => ⟨[some (.int n), some (.tup xs), some x], rfl, ?_⟩
  have k := is_cap_eq (h x hx)
  walk_at "z"
theorem read_ge {n : Int} {xs : List D} {S : Sto} (h : ∀ x ∈ xs, Ok1 S x) : dGe false (iAny (dVar 1)) [2] (gN 2) tYesD (dCall (arity 1 Fis_moment) [] (aCons (dVar 2) aNil)) [some (.int n), some (.tup xs), none] S = .ok (.bl (xs.all momB)) S := by
  have e : iAny (dVar 1) [some (.int n), some (.tup xs), none] S = .ok (xs, still (.tup xs) xs) S := by simp [iAny, dVar, R.bind_ok, asAny, asSeq, seqOf]
  unfold dGe
  rw [e, R.bind_ok]
  refine geGo_all trivial momB xs fun x hx => ⟨[some (.int n), some (.tup xs), some x], rfl, ?_⟩
  have k := is_moment_eq (h x hx)
  walk_at "z"
def rowB (n : Int) : D → Bool
  | .tup xs => decide ((xs.length : Int) = n) && xs.all capB
  | _ => false
def readB (n : Int) : D → Bool
  | .tup xs => decide ((xs.length : Int) = n) && xs.all momB
  | _ => false
theorem is_row_eq {n : Int} {d : D} {S : Sto} (h : Ok2 S d) : Fis_table_row [.int n, d] S = .ok (.bl (rowB n d)) S := by
  have ht := is_tuple_of_eq (n := n) h.r
  unfold Fis_table_row
  cases d with
  | tup xs =>
    have hg := row_ge (n := n) (h.i xs rfl)
    simp only at ht
    show _ = R.ok (D.bl (decide ((xs.length : Int) = n) && xs.all capB)) S
    clear h
    by_cases hl : (xs.length : Int) = n
    · rw [decide_eq_true hl] at ht ⊢
      clear hl
      simp only [gN] at hg
      walk_at "z"
    · rw [decide_eq_false hl] at ht ⊢
      clear hl hg
      walk_at "z"
  | _ =>
    simp only at ht
    clear h
    first | (walk_at "z"; done) | (walk_at "z"; rfl)
theorem is_readings_eq {n : Int} {d : D} {S : Sto} (h : Ok2 S d) : Fis_readings [.int n, d] S = .ok (.bl (readB n d)) S := by
  have ht := is_tuple_of_eq (n := n) h.r
  unfold Fis_readings
  cases d with
  | tup xs =>
    have hg := read_ge (n := n) (h.i xs rfl)
    simp only at ht
    show _ = R.ok (D.bl (decide ((xs.length : Int) = n) && xs.all momB)) S
    clear h
    by_cases hl : (xs.length : Int) = n
    · rw [decide_eq_true hl] at ht ⊢
      clear hl
      simp only [gN] at hg
      walk_at "z"
    · rw [decide_eq_false hl] at ht ⊢
      clear hl hg
      walk_at "z"
  | _ =>
    simp only at ht
    clear h
    first | (walk_at "z"; done) | (walk_at "z"; rfl)
end K02
end

section
set_option Elab.async false
set_option linter.all false
set_option maxRecDepth 100000
set_option maxHeartbeats 1000000
open Z
local macro_rules | `(tactic| walk_at "z") => `(tactic| simp [fnF_eq, sSeq, sSet, sRet, sIf, sDrop, sNil, sAsg, sPar, sPut, F.then_nx, F.then_rt, F.then_bk, F.then_ct, F.then_ex, F.then_bad, F.then_ite, R.lift_ok, R.lift_ex, R.lift_bad, R.lift_ite, R.bind_ok, R.bind_ex, R.bind_bad, R.bind_ite, F.fin_nx, F.fin_rt, F.fin_ex, F.fin_bad, F.fin_ite, dVar, dC, bin, un, dAnd, dOr, dNot, tB', tAnd', tOr', tNot', dIf, asB_bl, aNil, aCons, dTup, mkT, dLst, mkL, fIx, seqOf, lstOf, L2.atI, L2.ixN, fAdd, fPlus, dSl, oSome, oNone, asI, fSl, fInT, fStr, fIntT, fFmt, dFmt, dJs, fPart, fStarts, fFind, fIsdig, fIsasc, fMulS, fSub, fMul, fLt, fGt, fLe, fGe, fEq, fDiv, fMod, fNeg, fPow, arity, dCall, dCallY, dCallK, dCallX, dSoSetL, dIsi2, fIsi2, noEx, dCB, fGcd, fLen, fMax2, fMin2, fInt, gN, gT, gAll, dIsi, fIsi, isTy, refOk, dIsN, dNotN, dIsB, dNotB, isNon, isBl, sz_lt, sz_le, sRaise, sTry, collapse_const, endX, dXf, dXis, dBM, dBM0, fPop, fApp, fRevM, fIns, fPopAt, tTr, fTr, aStar, dSoSet, sRetN, fTuple, fAbs, tyD, *])
local macro_rules | `(tactic| walk_at "y") => `(tactic| simp [fnF_eq, sSeq, sSet, sRet, sIf, sDrop, sNil, sAsg, sPar, sPut, F.then_nx, F.then_rt, F.then_bk, F.then_ct, F.then_ex, F.then_bad, F.then_ite, R.lift_ok, R.lift_ex, R.lift_bad, R.lift_ite, R.bind_ok, R.bind_ex, R.bind_bad, R.bind_ite, F.fin_nx, F.fin_rt, F.fin_ex, F.fin_bad, F.fin_ite, dVar, dC, bin, un, dAnd, dOr, dNot, tB', tAnd', tOr', tNot', dIf, asB_bl, aNil, aCons, dTup, mkT, dLst, mkL, fIx, seqOf, lstOf, L2.atI, L2.ixN, fAdd, fPlus, dSl, oSome, oNone, asI, fSl, fInT, fStr, fIntT, fFmt, dFmt, dJs, fPart, fStarts, fFind, fIsdig, fIsasc, fMulS, fSub, fMul, fLt, fGt, fLe, fGe, fEq, fDiv, fMod, fNeg, fPow, arity, dCall, dCallY, dCallK, dCallX, dSoSetL, dIsi2, fIsi2, noEx, dCB, fGcd, fLen, fMax2, fMin2, fInt, sFor, iRng1, fRng1, iSeq, asSeq, iAny, asAny, dIsi, fIsi, isTy, refOk, dIsN, dNotN, dIsB, dNotB, isNon, isBl, sz_lt, sz_le, sRaise, sTry, collapse_const, endX, dXf, dXis, dBM, dBM0, fPop, fApp, fRevM, fIns, fPopAt, tTr, fTr, aStar, dSoSet, sRetN, fTuple, fAbs, tyD, *])
local macro_rules | `(tactic| walk_at "v") => `(tactic| simp [fnF_eq, sSeq, sSet, sRet, sIf, sDrop, sNil, sAsg, sPar, sPut, F.then_nx, F.then_rt, F.then_bk, F.then_ct, F.then_ex, F.then_bad, F.then_ite, R.lift_ok, R.lift_ex, R.lift_bad, R.lift_ite, R.bind_ok, R.bind_ex, R.bind_bad, R.bind_ite, F.fin_nx, F.fin_rt, F.fin_ex, F.fin_bad, F.fin_ite, dVar, dC, bin, un, dAnd, dOr, dNot, tB', tAnd', tOr', tNot', dIf, asB_bl, aNil, aCons, dTup, mkT, dLst, mkL, seqOf, lstOf, fAdd, fPlus, dSl, oSome, oNone, asI, fInT, fStr, fIntT, fFmt, dFmt, dJs, fPart, fStarts, fFind, fIsdig, fIsasc, fMulS, fSub, fLt, fGt, fLe, fGe, fEq, fMod, fNeg, fPow, arity, dCall, dCallY, dCallK, dCallX, dSoSetL, dIsi2, fIsi2, noEx, dCB, fGcd, fMax2, fMin2, fInt, gN, gT, gAll, dIsi, fIsi, isTy, refOk, dIsN, dNotN, dIsB, dNotB, isNon, isBl, sz_lt, sz_le, sRaise, sTry, collapse_const, endX, dXf, dXis, dBM, dBM0, tTr, fTr, aStar, sRetN, fAbs, *])
local macro_rules | `(tactic| walk_at "u") => `(tactic| simp [fnF_eq, sSeq, sSet, sRet, sIf, sDrop, sNil, sAsg, sPar, sPut, F.then_nx, F.then_rt, F.then_bk, F.then_ct, F.then_ex, F.then_bad, F.then_ite, R.lift_ok, R.lift_ex, R.lift_bad, R.lift_ite, R.bind_ok, R.bind_ex, R.bind_bad, R.bind_ite, F.fin_nx, F.fin_rt, F.fin_ex, F.fin_bad, F.fin_ite, dVar, dC, bin, un, dAnd, dOr, dNot, tB', tAnd', tOr', tNot', dIf, asB_bl, aNil, aCons, dTup, mkT, dLst, mkL, seqOf, lstOf, fAdd, fPlus, dSl, oSome, oNone, asI, fInT, fStr, fIntT, fFmt, dFmt, dJs, fPart, fStarts, fFind, fIsdig, fIsasc, fMulS, fSub, fLt, fGt, fLe, fGe, fEq, fMod, fNeg, fPow, arity, dCall, dCallY, dCallK, dCallX, dSoSetL, dIsi2, fIsi2, noEx, dCB, fGcd, fMax2, fMin2, fInt, dIsi, fIsi, isTy, refOk, dIsN, dNotN, dIsB, dNotB, isNon, isBl, sz_lt, sz_le, sRaise, sTry, collapse_const, endX, dXf, dXis, dBM, dBM0, tTr, fTr, aStar, sRetN, fAbs, sFor, iAny, iRng1, iEn, *])
local macro_rules | `(tactic| walk_at "t") => `(tactic| simp [fnF_eq, sSeq, sSet, sRet, sIf, sDrop, sNil, sAsg, sPar, sPut, F.then_nx, F.then_rt, F.then_bk, F.then_ct, F.then_ex, F.then_bad, F.then_ite, R.lift_ok, R.lift_ex, R.lift_bad, R.lift_ite, R.bind_ok, R.bind_ex, R.bind_bad, R.bind_ite, F.fin_nx, F.fin_rt, F.fin_ex, F.fin_bad, F.fin_ite, dVar, dC, bin, un, dAnd, dOr, dNot, tB', tAnd', tOr', tNot', dIf, asB_bl, aNil, aCons, dTup, mkT, dLst, mkL, seqOf, lstOf, fAdd, dSl, oSome, oNone, asI, fInT, fStr, fIntT, fFmt, dFmt, dJs, fPart, fStarts, fFind, fIsdig, fIsasc, fMulS, fSub, fLt, fGt, fLe, fGe, fEq, fMod, fNeg, fPow, arity, dCall, dCallY, dCallK, dCallX, dSoSetL, dIsi2, fIsi2, noEx, dCB, fGcd, fMax2, fMin2, fInt, dIsi, fIsi, isTy, refOk, dIsN, dNotN, dIsB, dNotB, isNon, isBl, sz_lt, sz_le, sRaise, sTry, collapse_const, endX, dXf, dXis, dBM, dBM0, tTr, fTr, aStar, sRetN, fAbs, sFor, iAny, iRng1, iEn, *])
namespace K02
theorem bools_map (p : D → Bool) : ∀ xs : List D, boolsOf (xs.map fun x => D.bl (p x)) = some (xs.map p)
  | [] => rfl
  | x :: xs => by rw [List.map_cons, boolsOf, bools_map p xs]; rfl
theorem all_map (p : D → Bool) (xs : List D) (S : Sto) : fAll [.lst (xs.map fun x => D.bl (p x))] S = .ok (.bl (xs.all p)) S := by
  simp only [fAll, lstOf, bools_map]
  simp [List.all_map, Function.comp_def]
theorem row_lc {n : Int} {xs : List D} {S : Sto} (h : ∀ x ∈ xs, Ok1 S x) (hl : xs.length ≤ 1000) : dLc false (iAny (dVar 0)) [2] (gN 2) tYesD (dCall (arity 1 F_law_cap) [] (aCons (dVar 2) aNil)) [some (.tup xs), some (.int n), none] S = .ok (.lst (xs.map fun x => D.bl (capB x))) S := by
  have e : iAny (dVar 0) [some (.tup xs), some (.int n), none] S = .ok (xs, still (.tup xs) xs) S := by simp [iAny, dVar, R.bind_ok, asAny, asSeq, seqOf]
  rw [dLc_map (fun x => D.bl (capB x)) e trivial hl fun x hx => ⟨[some (.tup xs), some (.int n), some x], rfl, ?_⟩]
  · rfl
  have k := law_cap_eq (h x hx)
  walk_at "z"
theorem read_lc {n : Int} {xs : List D} {S : Sto} (h : ∀ x ∈ xs, Ok1 S x) (hs : ∀ x ∈ xs, ∀ p q, x = .tup [.int p, .int q] → sm 249 q) (hl : xs.length ≤ 1000) : dLc false (iAny (dVar 1)) [2] (gN 2) tYesD (dCall (arity 1 F_law_moment) [] (aCons (dVar 2) aNil)) [some (.int n), some (.tup xs), none] S = .ok (.lst (xs.map fun x => D.bl (momB x))) S := by
  have e : iAny (dVar 1) [some (.int n), some (.tup xs), none] S = .ok (xs, still (.tup xs) xs) S := by simp [iAny, dVar, R.bind_ok, asAny, asSeq, seqOf]
  rw [dLc_map (fun x => D.bl (momB x)) e trivial hl fun x hx => ⟨[some (.int n), some (.tup xs), some x], rfl, ?_⟩]
  · rfl
  have k := law_moment_eq (h x hx) (hs x hx)
  walk_at "z"
theorem law_row_eq {n : Int} {d : D} {S : Sto} (h : Ok2 S d) (hz : ∀ xs, d = .tup xs → xs.length ≤ 1000) : F_law_row [d, .int n] S = .ok (.bl (rowB n d)) S := by
  unfold F_law_row
  cases d with
  | tup xs =>
    have hg := row_lc (n := n) (h.i xs rfl) (hz xs rfl)
    have ha := all_map capB xs S
    clear h hz
    show _ = R.ok (D.bl (decide ((xs.length : Int) = n) && xs.all capB)) S
    simp only [gN] at hg
    by_cases hl : (xs.length : Int) = n
    · rw [decide_eq_true hl]
      subst hl
      walk_at "z"
    · rw [decide_eq_false hl]
      walk_at "z"
  | _ =>
    have hr := h.r
    clear h hz
    simp only [refOk] at hr
    first | (exact absurd hr (by decide)) | (walk_at "z"; done) | (walk_at "z"; rfl)
theorem law_readings_eq {n : Int} {d : D} {S : Sto} (h : Ok2 S d) (hs : ∀ xs, d = .tup xs → ∀ x ∈ xs, ∀ p q, x = .tup [.int p, .int q] → sm 249 q) (hz : ∀ xs, d = .tup xs → xs.length ≤ 1000) : F_law_readings [.int n, d] S = .ok (.bl (readB n d)) S := by
  unfold F_law_readings
  cases d with
  | tup xs =>
    have hg := read_lc (n := n) (h.i xs rfl) (hs xs rfl) (hz xs rfl)
    have ha := all_map momB xs S
    clear h hz hs
    show _ = R.ok (D.bl (decide ((xs.length : Int) = n) && xs.all momB)) S
    simp only [gN] at hg
    by_cases hl : (xs.length : Int) = n
    · rw [decide_eq_true hl]
      subst hl
      walk_at "z"
    · rw [decide_eq_false hl]
      walk_at "z"
  | _ =>
    have hr := h.r
    clear h hz hs
    simp only [refOk] at hr
    first | (exact absurd hr (by decide)) | (walk_at "z"; done) | (walk_at "z"; rfl)
end K02
end

section
set_option Elab.async false
set_option linter.all false
set_option maxRecDepth 100000
set_option maxHeartbeats 1000000
open Z
local macro_rules | `(tactic| walk_at "z") => `(tactic| simp [fnF_eq, sSeq, sSet, sRet, sIf, sDrop, sNil, sAsg, sPar, sPut, F.then_nx, F.then_rt, F.then_bk, F.then_ct, F.then_ex, F.then_bad, F.then_ite, R.lift_ok, R.lift_ex, R.lift_bad, R.lift_ite, R.bind_ok, R.bind_ex, R.bind_bad, R.bind_ite, F.fin_nx, F.fin_rt, F.fin_ex, F.fin_bad, F.fin_ite, dVar, dC, bin, un, dAnd, dOr, dNot, tB', tAnd', tOr', tNot', dIf, asB_bl, aNil, aCons, dTup, mkT, dLst, mkL, fIx, seqOf, lstOf, L2.atI, L2.ixN, fAdd, fPlus, dSl, oSome, oNone, asI, fSl, fInT, fStr, fIntT, fFmt, dFmt, dJs, fPart, fStarts, fFind, fIsdig, fIsasc, fMulS, fSub, fMul, fLt, fGt, fLe, fGe, fEq, fDiv, fMod, fNeg, fPow, arity, dCall, dCallY, dCallK, dCallX, dSoSetL, dIsi2, fIsi2, noEx, dCB, fGcd, fLen, fMax2, fMin2, fInt, gN, gT, gAll, dIsi, fIsi, isTy, refOk, dIsN, dNotN, dIsB, dNotB, isNon, isBl, sz_lt, sz_le, sRaise, sTry, collapse_const, endX, dXf, dXis, dBM, dBM0, fPop, fApp, fRevM, fIns, fPopAt, tTr, fTr, aStar, dSoSet, sRetN, fTuple, fAbs, tyD, *])
local macro_rules | `(tactic| walk_at "y") => `(tactic| simp [fnF_eq, sSeq, sSet, sRet, sIf, sDrop, sNil, sAsg, sPar, sPut, F.then_nx, F.then_rt, F.then_bk, F.then_ct, F.then_ex, F.then_bad, F.then_ite, R.lift_ok, R.lift_ex, R.lift_bad, R.lift_ite, R.bind_ok, R.bind_ex, R.bind_bad, R.bind_ite, F.fin_nx, F.fin_rt, F.fin_ex, F.fin_bad, F.fin_ite, dVar, dC, bin, un, dAnd, dOr, dNot, tB', tAnd', tOr', tNot', dIf, asB_bl, aNil, aCons, dTup, mkT, dLst, mkL, fIx, seqOf, lstOf, L2.atI, L2.ixN, fAdd, fPlus, dSl, oSome, oNone, asI, fSl, fInT, fStr, fIntT, fFmt, dFmt, dJs, fPart, fStarts, fFind, fIsdig, fIsasc, fMulS, fSub, fMul, fLt, fGt, fLe, fGe, fEq, fDiv, fMod, fNeg, fPow, arity, dCall, dCallY, dCallK, dCallX, dSoSetL, dIsi2, fIsi2, noEx, dCB, fGcd, fLen, fMax2, fMin2, fInt, sFor, iRng1, fRng1, iSeq, asSeq, iAny, asAny, dIsi, fIsi, isTy, refOk, dIsN, dNotN, dIsB, dNotB, isNon, isBl, sz_lt, sz_le, sRaise, sTry, collapse_const, endX, dXf, dXis, dBM, dBM0, fPop, fApp, fRevM, fIns, fPopAt, tTr, fTr, aStar, dSoSet, sRetN, fTuple, fAbs, tyD, *])
local macro_rules | `(tactic| walk_at "v") => `(tactic| simp [fnF_eq, sSeq, sSet, sRet, sIf, sDrop, sNil, sAsg, sPar, sPut, F.then_nx, F.then_rt, F.then_bk, F.then_ct, F.then_ex, F.then_bad, F.then_ite, R.lift_ok, R.lift_ex, R.lift_bad, R.lift_ite, R.bind_ok, R.bind_ex, R.bind_bad, R.bind_ite, F.fin_nx, F.fin_rt, F.fin_ex, F.fin_bad, F.fin_ite, dVar, dC, bin, un, dAnd, dOr, dNot, tB', tAnd', tOr', tNot', dIf, asB_bl, aNil, aCons, dTup, mkT, dLst, mkL, seqOf, lstOf, fAdd, fPlus, dSl, oSome, oNone, asI, fInT, fStr, fIntT, fFmt, dFmt, dJs, fPart, fStarts, fFind, fIsdig, fIsasc, fMulS, fSub, fLt, fGt, fLe, fGe, fEq, fMod, fNeg, fPow, arity, dCall, dCallY, dCallK, dCallX, dSoSetL, dIsi2, fIsi2, noEx, dCB, fGcd, fMax2, fMin2, fInt, gN, gT, gAll, dIsi, fIsi, isTy, refOk, dIsN, dNotN, dIsB, dNotB, isNon, isBl, sz_lt, sz_le, sRaise, sTry, collapse_const, endX, dXf, dXis, dBM, dBM0, tTr, fTr, aStar, sRetN, fAbs, *])
local macro_rules | `(tactic| walk_at "u") => `(tactic| simp [fnF_eq, sSeq, sSet, sRet, sIf, sDrop, sNil, sAsg, sPar, sPut, F.then_nx, F.then_rt, F.then_bk, F.then_ct, F.then_ex, F.then_bad, F.then_ite, R.lift_ok, R.lift_ex, R.lift_bad, R.lift_ite, R.bind_ok, R.bind_ex, R.bind_bad, R.bind_ite, F.fin_nx, F.fin_rt, F.fin_ex, F.fin_bad, F.fin_ite, dVar, dC, bin, un, dAnd, dOr, dNot, tB', tAnd', tOr', tNot', dIf, asB_bl, aNil, aCons, dTup, mkT, dLst, mkL, seqOf, lstOf, fAdd, fPlus, dSl, oSome, oNone, asI, fInT, fStr, fIntT, fFmt, dFmt, dJs, fPart, fStarts, fFind, fIsdig, fIsasc, fMulS, fSub, fLt, fGt, fLe, fGe, fEq, fMod, fNeg, fPow, arity, dCall, dCallY, dCallK, dCallX, dSoSetL, dIsi2, fIsi2, noEx, dCB, fGcd, fMax2, fMin2, fInt, dIsi, fIsi, isTy, refOk, dIsN, dNotN, dIsB, dNotB, isNon, isBl, sz_lt, sz_le, sRaise, sTry, collapse_const, endX, dXf, dXis, dBM, dBM0, tTr, fTr, aStar, sRetN, fAbs, sFor, iAny, iRng1, iEn, *])
local macro_rules | `(tactic| walk_at "t") => `(tactic| simp [fnF_eq, sSeq, sSet, sRet, sIf, sDrop, sNil, sAsg, sPar, sPut, F.then_nx, F.then_rt, F.then_bk, F.then_ct, F.then_ex, F.then_bad, F.then_ite, R.lift_ok, R.lift_ex, R.lift_bad, R.lift_ite, R.bind_ok, R.bind_ex, R.bind_bad, R.bind_ite, F.fin_nx, F.fin_rt, F.fin_ex, F.fin_bad, F.fin_ite, dVar, dC, bin, un, dAnd, dOr, dNot, tB', tAnd', tOr', tNot', dIf, asB_bl, aNil, aCons, dTup, mkT, dLst, mkL, seqOf, lstOf, fAdd, dSl, oSome, oNone, asI, fInT, fStr, fIntT, fFmt, dFmt, dJs, fPart, fStarts, fFind, fIsdig, fIsasc, fMulS, fSub, fLt, fGt, fLe, fGe, fEq, fMod, fNeg, fPow, arity, dCall, dCallY, dCallK, dCallX, dSoSetL, dIsi2, fIsi2, noEx, dCB, fGcd, fMax2, fMin2, fInt, dIsi, fIsi, isTy, refOk, dIsN, dNotN, dIsB, dNotB, isNon, isBl, sz_lt, sz_le, sRaise, sTry, collapse_const, endX, dXf, dXis, dBM, dBM0, tTr, fTr, aStar, sRetN, fAbs, sFor, iAny, iRng1, iEn, *])
namespace K02
/-- three levels deep -/
structure Ok3 (S : Sto) (d : D) : Prop where
  r : refOk S d = true
  i : ∀ xs, d = .tup xs → ∀ x ∈ xs, Ok2 S x
theorem Ok3.o2 {S : Sto} {d : D} (h : Ok3 S d) : Ok2 S d := ⟨h.r, fun xs e x hx => (h.i xs e x hx).o1⟩
def tableB : D → Bool
  | .tup xs => decide (2 ≤ xs.length) && xs.all (rowB (xs.length : Int))
  | _ => false
theorem table_ge {xs : List D} {S : Sto} (h : ∀ x ∈ xs, Ok2 S x) : dGe false (iAny (dVar 0)) [1] (gN 1) tYesD (dCall (arity 2 Fis_table_row) [] (aCons (dCB fLen (aCons (dVar 0) aNil)) (aCons (dVar 1) aNil))) [some (.tup xs), none] S = .ok (.bl (xs.all (rowB (xs.length : Int)))) S := by
  have e : iAny (dVar 0) [some (.tup xs), none] S = .ok (xs, still (.tup xs) xs) S := by simp [iAny, dVar, R.bind_ok, asAny, asSeq, seqOf]
  unfold dGe
  rw [e, R.bind_ok]
  refine geGo_all trivial (rowB (xs.length : Int)) xs fun x hx => ⟨[some (.tup xs), some x], rfl, ?_⟩
  have k := is_row_eq (n := (xs.length : Int)) (h x hx)
  walk_at "z"
theorem table_lc {xs : List D} {S : Sto} (h : ∀ x ∈ xs, Ok2 S x) (hz : ∀ x ∈ xs, ∀ ys, x = .tup ys → ys.length ≤ 1000) (hl : xs.length ≤ 1000) : dLc false (iAny (dVar 0)) [1] (gN 1) tYesD (dCall (arity 2 F_law_row) [] (aCons (dVar 1) (aCons (dCB fLen (aCons (dVar 0) aNil)) aNil))) [some (.tup xs), none] S = .ok (.lst (xs.map fun x => D.bl (rowB (xs.length : Int) x))) S := by
  have e : iAny (dVar 0) [some (.tup xs), none] S = .ok (xs, still (.tup xs) xs) S := by simp [iAny, dVar, R.bind_ok, asAny, asSeq, seqOf]
  rw [dLc_map (fun x => D.bl (rowB (xs.length : Int) x)) e trivial hl fun x hx => ⟨[some (.tup xs), some x], rfl, ?_⟩]
  · rfl
  have k := law_row_eq (n := (xs.length : Int)) (h x hx) (hz x hx)
  walk_at "z"
theorem is_table_eq {d : D} {S : Sto} (h : Ok3 S d) : Fis_table [d] S = .ok (.bl (tableB d)) S := by
  unfold Fis_table
  cases d with
  | tup xs =>
    have hg := table_ge (h.i xs rfl)
    clear h
    show _ = R.ok (D.bl (decide (2 ≤ xs.length) && xs.all (rowB (xs.length : Int)))) S
    simp only [gN] at hg
    by_cases hl : 2 ≤ xs.length
    · rw [decide_eq_true hl]
      have h2 : (2 : Int) ≤ (xs.length : Int) := by omega
      clear hl
      walk_at "z"
    · rw [decide_eq_false hl]
      have h2 : ¬ (2 : Int) ≤ (xs.length : Int) := by omega
      clear hl
      walk_at "z"
  | _ =>
    have hr := h.r
    clear h
    simp only [refOk] at hr
    first | (exact absurd hr (by decide)) | (walk_at "z"; done) | (walk_at "z"; rfl)
theorem law_table_eq {d : D} {S : Sto} (h : Ok3 S d) (hz : ∀ xs, d = .tup xs → ∀ x ∈ xs, ∀ ys, x = .tup ys → ys.length ≤ 1000) (hl : ∀ xs, d = .tup xs → xs.length ≤ 1000) : F_law_table [d] S = .ok (.bl (tableB d)) S := by
  unfold F_law_table
  cases d with
  | tup xs =>
    have hg := table_lc (h.i xs rfl) (hz xs rfl) (hl xs rfl)
    have ha := all_map (rowB (xs.length : Int)) xs S
    clear h hz hl
    show _ = R.ok (D.bl (decide (2 ≤ xs.length) && xs.all (rowB (xs.length : Int)))) S
    simp only [gN] at hg
    by_cases hl : 2 ≤ xs.length
    · rw [decide_eq_true hl]
      have h2 : ¬ (xs.length : Int) < 2 := by omega
      clear hl
      walk_at "z"
    · rw [decide_eq_false hl]
      have h2 : (xs.length : Int) < 2 := by omega
      clear hl
      walk_at "z"
  | _ =>
    have hr := h.r
    clear h hz hl
    simp only [refOk] at hr
    first | (exact absurd hr (by decide)) | (walk_at "z"; done) | (walk_at "z"; rfl)
end K02
end

section
set_option Elab.async false
set_option linter.all false
set_option maxRecDepth 100000
set_option maxHeartbeats 1000000
open Z
local macro_rules | `(tactic| walk_at "z") => `(tactic| simp [fnF_eq, sSeq, sSet, sRet, sIf, sDrop, sNil, sAsg, sPar, sPut, F.then_nx, F.then_rt, F.then_bk, F.then_ct, F.then_ex, F.then_bad, F.then_ite, R.lift_ok, R.lift_ex, R.lift_bad, R.lift_ite, R.bind_ok, R.bind_ex, R.bind_bad, R.bind_ite, F.fin_nx, F.fin_rt, F.fin_ex, F.fin_bad, F.fin_ite, dVar, dC, bin, un, dAnd, dOr, dNot, tB', tAnd', tOr', tNot', dIf, asB_bl, aNil, aCons, dTup, mkT, dLst, mkL, fIx, seqOf, lstOf, L2.atI, L2.ixN, fAdd, fPlus, dSl, oSome, oNone, asI, fSl, fInT, fStr, fIntT, fFmt, dFmt, dJs, fPart, fStarts, fFind, fIsdig, fIsasc, fMulS, fSub, fMul, fLt, fGt, fLe, fGe, fEq, fDiv, fMod, fNeg, fPow, arity, dCall, dCallY, dCallK, dCallX, dSoSetL, dIsi2, fIsi2, noEx, dCB, fGcd, fLen, fMax2, fMin2, fInt, gN, gT, gAll, dIsi, fIsi, isTy, refOk, dIsN, dNotN, dIsB, dNotB, isNon, isBl, sz_lt, sz_le, sRaise, sTry, collapse_const, endX, dXf, dXis, dBM, dBM0, fPop, fApp, fRevM, fIns, fPopAt, tTr, fTr, aStar, dSoSet, sRetN, fTuple, fAbs, tyD, *])
local macro_rules | `(tactic| walk_at "y") => `(tactic| simp [fnF_eq, sSeq, sSet, sRet, sIf, sDrop, sNil, sAsg, sPar, sPut, F.then_nx, F.then_rt, F.then_bk, F.then_ct, F.then_ex, F.then_bad, F.then_ite, R.lift_ok, R.lift_ex, R.lift_bad, R.lift_ite, R.bind_ok, R.bind_ex, R.bind_bad, R.bind_ite, F.fin_nx, F.fin_rt, F.fin_ex, F.fin_bad, F.fin_ite, dVar, dC, bin, un, dAnd, dOr, dNot, tB', tAnd', tOr', tNot', dIf, asB_bl, aNil, aCons, dTup, mkT, dLst, mkL, fIx, seqOf, lstOf, L2.atI, L2.ixN, fAdd, fPlus, dSl, oSome, oNone, asI, fSl, fInT, fStr, fIntT, fFmt, dFmt, dJs, fPart, fStarts, fFind, fIsdig, fIsasc, fMulS, fSub, fMul, fLt, fGt, fLe, fGe, fEq, fDiv, fMod, fNeg, fPow, arity, dCall, dCallY, dCallK, dCallX, dSoSetL, dIsi2, fIsi2, noEx, dCB, fGcd, fLen, fMax2, fMin2, fInt, sFor, iRng1, fRng1, iSeq, asSeq, iAny, asAny, dIsi, fIsi, isTy, refOk, dIsN, dNotN, dIsB, dNotB, isNon, isBl, sz_lt, sz_le, sRaise, sTry, collapse_const, endX, dXf, dXis, dBM, dBM0, fPop, fApp, fRevM, fIns, fPopAt, tTr, fTr, aStar, dSoSet, sRetN, fTuple, fAbs, tyD, *])
local macro_rules | `(tactic| walk_at "v") => `(tactic| simp [fnF_eq, sSeq, sSet, sRet, sIf, sDrop, sNil, sAsg, sPar, sPut, F.then_nx, F.then_rt, F.then_bk, F.then_ct, F.then_ex, F.then_bad, F.then_ite, R.lift_ok, R.lift_ex, R.lift_bad, R.lift_ite, R.bind_ok, R.bind_ex, R.bind_bad, R.bind_ite, F.fin_nx, F.fin_rt, F.fin_ex, F.fin_bad, F.fin_ite, dVar, dC, bin, un, dAnd, dOr, dNot, tB', tAnd', tOr', tNot', dIf, asB_bl, aNil, aCons, dTup, mkT, dLst, mkL, seqOf, lstOf, fAdd, fPlus, dSl, oSome, oNone, asI, fInT, fStr, fIntT, fFmt, dFmt, dJs, fPart, fStarts, fFind, fIsdig, fIsasc, fMulS, fSub, fLt, fGt, fLe, fGe, fEq, fMod, fNeg, fPow, arity, dCall, dCallY, dCallK, dCallX, dSoSetL, dIsi2, fIsi2, noEx, dCB, fGcd, fMax2, fMin2, fInt, gN, gT, gAll, dIsi, fIsi, isTy, refOk, dIsN, dNotN, dIsB, dNotB, isNon, isBl, sz_lt, sz_le, sRaise, sTry, collapse_const, endX, dXf, dXis, dBM, dBM0, tTr, fTr, aStar, sRetN, fAbs, *])
local macro_rules | `(tactic| walk_at "u") => `(tactic| simp [fnF_eq, sSeq, sSet, sRet, sIf, sDrop, sNil, sAsg, sPar, sPut, F.then_nx, F.then_rt, F.then_bk, F.then_ct, F.then_ex, F.then_bad, F.then_ite, R.lift_ok, R.lift_ex, R.lift_bad, R.lift_ite, R.bind_ok, R.bind_ex, R.bind_bad, R.bind_ite, F.fin_nx, F.fin_rt, F.fin_ex, F.fin_bad, F.fin_ite, dVar, dC, bin, un, dAnd, dOr, dNot, tB', tAnd', tOr', tNot', dIf, asB_bl, aNil, aCons, dTup, mkT, dLst, mkL, seqOf, lstOf, fAdd, fPlus, dSl, oSome, oNone, asI, fInT, fStr, fIntT, fFmt, dFmt, dJs, fPart, fStarts, fFind, fIsdig, fIsasc, fMulS, fSub, fLt, fGt, fLe, fGe, fEq, fMod, fNeg, fPow, arity, dCall, dCallY, dCallK, dCallX, dSoSetL, dIsi2, fIsi2, noEx, dCB, fGcd, fMax2, fMin2, fInt, dIsi, fIsi, isTy, refOk, dIsN, dNotN, dIsB, dNotB, isNon, isBl, sz_lt, sz_le, sRaise, sTry, collapse_const, endX, dXf, dXis, dBM, dBM0, tTr, fTr, aStar, sRetN, fAbs, sFor, iAny, iRng1, iEn, *])
local macro_rules | `(tactic| walk_at "t") => `(tactic| simp [fnF_eq, sSeq, sSet, sRet, sIf, sDrop, sNil, sAsg, sPar, sPut, F.then_nx, F.then_rt, F.then_bk, F.then_ct, F.then_ex, F.then_bad, F.then_ite, R.lift_ok, R.lift_ex, R.lift_bad, R.lift_ite, R.bind_ok, R.bind_ex, R.bind_bad, R.bind_ite, F.fin_nx, F.fin_rt, F.fin_ex, F.fin_bad, F.fin_ite, dVar, dC, bin, un, dAnd, dOr, dNot, tB', tAnd', tOr', tNot', dIf, asB_bl, aNil, aCons, dTup, mkT, dLst, mkL, seqOf, lstOf, fAdd, dSl, oSome, oNone, asI, fInT, fStr, fIntT, fFmt, dFmt, dJs, fPart, fStarts, fFind, fIsdig, fIsasc, fMulS, fSub, fLt, fGt, fLe, fGe, fEq, fMod, fNeg, fPow, arity, dCall, dCallY, dCallK, dCallX, dSoSetL, dIsi2, fIsi2, noEx, dCB, fGcd, fMax2, fMin2, fInt, dIsi, fIsi, isTy, refOk, dIsN, dNotN, dIsB, dNotB, isNon, isBl, sz_lt, sz_le, sRaise, sTry, collapse_const, endX, dXf, dXis, dBM, dBM0, tTr, fTr, aStar, sRetN, fAbs, sFor, iAny, iRng1, iEn, *])
namespace K02
theorem told_eq (b : Bool) (S : Sto) : F_law_told [.bl b, .bl b] S = .ok (.bl true) S := by
  unfold F_law_told
  cases b <;> first | (walk_at "z"; done) | (walk_at "z"; rfl)
/-- a value that the judges may be asked of -/
structure OkV (S : Sto) (d : D) : Prop where
  o : Ok3 S d
  s1 : ∀ p q, d = .tup [.int p, .int q] → sm 249 q
  s2 : ∀ xs, d = .tup xs → ∀ x ∈ xs, ∀ p q, x = .tup [.int p, .int q] → sm 249 q
  l1 : ∀ xs, d = .tup xs → xs.length ≤ 1000
  l2 : ∀ xs, d = .tup xs → ∀ x ∈ xs, ∀ ys, x = .tup ys → ys.length ≤ 1000
noncomputable def judB : SDen := sIf (tNot' (tB' (dCall (arity 2 F_law_told) [] (aCons (dCall (arity 2 Fis_readings) [] (aCons (dVar 2) (aCons (dVar 1) (aNil)))) (aCons (dCall (arity 2 F_law_readings) [] (aCons (dVar 2) (aCons (dVar 1) (aNil)))) (aNil)))))) (sRet (dC (.bl false))) (sNil)
theorem jud_turn {n m : Int} {d : D} {S : Sto} (h : OkV S d) : judB [some (.int n), some d, some (.int m)] S = .nx [some (.int n), some d, some (.int m)] S := by
  have a := is_readings_eq (n := m) h.o.o2
  have b := law_readings_eq (n := m) h.o.o2 h.s2 h.l1
  have c := told_eq (readB m d) S
  clear h
  unfold judB
  walk_at "z"
theorem jud_go {n : Int} {d : D} {S : Sto} (h : OkV S d) {g : Sto → Prop} (hg : g S) : ∀ (ms : List Int) (o : Option D), ∃ o', forGo g (gN 2) judB (ms.map D.int) [some (.int n), some d, o] S = .nx [some (.int n), some d, o'] S
  | [], o => ⟨o, forGo_nil hg⟩
  | m :: ms, o => by
    obtain ⟨o', e⟩ := jud_go h hg ms (some (.int m))
    refine ⟨o', ?_⟩
    rw [List.map_cons, forGo, if_pos hg]
    have t : (gN 2).run (.int m) [some (.int n), some d, o] = some [some (.int n), some d, some (.int m)] := rfl
    rw [t]
    simp only [jud_turn h]
    exact e
theorem judged_eq {n : Int} {d : D} {S : Sto} (h : OkV S d) (hn : 1 ≤ n ∧ n ≤ 10) : F_law_judged [.int n, d] S = .ok (.bl true) S := by
  have a1 := is_moment_eq h.o.o2.o1
  have a2 := law_moment_eq h.o.o2.o1 h.s1
  have a3 := is_edge_eq h.o.o2.o1
  have a4 := law_edge_eq h.o.o2.o1
  have a5 := is_cap_eq h.o.o2.o1
  have a6 := law_cap_eq h.o.o2.o1
  have a7 := is_span_eq h.o.o2
  have a8 := law_span_eq h.o.o2
  have a9 := is_table_eq h.o
  have b1 := law_table_eq h.o h.l2 h.l1
  have c1 := told_eq (momB d) S
  have c2 := told_eq (edgeB d) S
  have c3 := told_eq (capB d) S
  have c4 := told_eq (spanB d) S
  have c5 := told_eq (tableB d) S
  have src : iRng2 (aCons (dCB fMax2 (aCons (dC (.int 1)) (aCons (bin fSub (dVar 0) (dC (.int 1))) (aNil)))) (aCons (bin fPlus (dVar 0) (dC (.int 2))) (aNil))) [some (.int n), some d, none] S = .ok ((List.range ((n + 2) - (if n - 1 > 1 then n - 1 else 1)).toNat).map fun (i : Nat) => D.int ((if n - 1 > 1 then n - 1 else 1) + (i : Int)), fun _ => True) S := by
    have r1 : Rok (if n - 1 > 1 then n - 1 else 1) ∧ Rok (n + 2) := by
      unfold Rok big
      split <;> omega
    have m : (if 1 < n - 1 then n - 1 else 1) = (if n - 1 > 1 then n - 1 else 1) := rfl
    simp only [iRng2, dCB, aCons, aNil, dC, bin, dVar, fMax2, fSub, fPlus, R.bind_ok, List.getElem?_cons_zero, m]
    simp only [fRng2, if_pos r1, rngD]
  have loop : ∃ o', sFor (iRng2 (aCons (dCB fMax2 (aCons (dC (.int 1)) (aCons (bin fSub (dVar 0) (dC (.int 1))) (aNil)))) (aCons (bin fPlus (dVar 0) (dC (.int 2))) (aNil)))) (gN 2) judB [some (.int n), some d, none] S = .nx [some (.int n), some d, o'] S := by
    unfold sFor
    rw [src, R.lift_ok]
    have e : ∀ l : Int, ∀ k : Nat, ((List.range k).map fun (i : Nat) => D.int (l + (i : Int))) = ((List.range k).map fun (i : Nat) => l + (i : Int)).map D.int := fun l k => by rw [List.map_map]; rfl
    rw [e]
    exact jud_go h trivial _ none
  obtain ⟨o', lo⟩ := loop
  clear src h
  unfold judB at lo
  unfold F_law_judged
  simp only [gN] at lo
  walk_at "z"
end K02
end

section
set_option Elab.async false
set_option linter.all false
set_option maxRecDepth 100000
set_option maxHeartbeats 1000000
open Z
local macro_rules | `(tactic| walk_at "z") => `(tactic| simp [fnF_eq, sSeq, sSet, sRet, sIf, sDrop, sNil, sAsg, sPar, sPut, F.then_nx, F.then_rt, F.then_bk, F.then_ct, F.then_ex, F.then_bad, F.then_ite, R.lift_ok, R.lift_ex, R.lift_bad, R.lift_ite, R.bind_ok, R.bind_ex, R.bind_bad, R.bind_ite, F.fin_nx, F.fin_rt, F.fin_ex, F.fin_bad, F.fin_ite, dVar, dC, bin, un, dAnd, dOr, dNot, tB', tAnd', tOr', tNot', dIf, asB_bl, aNil, aCons, dTup, mkT, dLst, mkL, fIx, seqOf, lstOf, L2.atI, L2.ixN, fAdd, fPlus, dSl, oSome, oNone, asI, fSl, fInT, fStr, fIntT, fFmt, dFmt, dJs, fPart, fStarts, fFind, fIsdig, fIsasc, fMulS, fSub, fMul, fLt, fGt, fLe, fGe, fEq, fDiv, fMod, fNeg, fPow, arity, dCall, dCallY, dCallK, dCallX, dSoSetL, dIsi2, fIsi2, noEx, dCB, fGcd, fLen, fMax2, fMin2, fInt, gN, gT, gAll, dIsi, fIsi, isTy, refOk, dIsN, dNotN, dIsB, dNotB, isNon, isBl, sz_lt, sz_le, sRaise, sTry, collapse_const, endX, dXf, dXis, dBM, dBM0, fPop, fApp, fRevM, fIns, fPopAt, tTr, fTr, aStar, dSoSet, sRetN, fTuple, fAbs, tyD, *])
local macro_rules | `(tactic| walk_at "y") => `(tactic| simp [fnF_eq, sSeq, sSet, sRet, sIf, sDrop, sNil, sAsg, sPar, sPut, F.then_nx, F.then_rt, F.then_bk, F.then_ct, F.then_ex, F.then_bad, F.then_ite, R.lift_ok, R.lift_ex, R.lift_bad, R.lift_ite, R.bind_ok, R.bind_ex, R.bind_bad, R.bind_ite, F.fin_nx, F.fin_rt, F.fin_ex, F.fin_bad, F.fin_ite, dVar, dC, bin, un, dAnd, dOr, dNot, tB', tAnd', tOr', tNot', dIf, asB_bl, aNil, aCons, dTup, mkT, dLst, mkL, fIx, seqOf, lstOf, L2.atI, L2.ixN, fAdd, fPlus, dSl, oSome, oNone, asI, fSl, fInT, fStr, fIntT, fFmt, dFmt, dJs, fPart, fStarts, fFind, fIsdig, fIsasc, fMulS, fSub, fMul, fLt, fGt, fLe, fGe, fEq, fDiv, fMod, fNeg, fPow, arity, dCall, dCallY, dCallK, dCallX, dSoSetL, dIsi2, fIsi2, noEx, dCB, fGcd, fLen, fMax2, fMin2, fInt, sFor, iRng1, fRng1, iSeq, asSeq, iAny, asAny, dIsi, fIsi, isTy, refOk, dIsN, dNotN, dIsB, dNotB, isNon, isBl, sz_lt, sz_le, sRaise, sTry, collapse_const, endX, dXf, dXis, dBM, dBM0, fPop, fApp, fRevM, fIns, fPopAt, tTr, fTr, aStar, dSoSet, sRetN, fTuple, fAbs, tyD, *])
local macro_rules | `(tactic| walk_at "v") => `(tactic| simp [fnF_eq, sSeq, sSet, sRet, sIf, sDrop, sNil, sAsg, sPar, sPut, F.then_nx, F.then_rt, F.then_bk, F.then_ct, F.then_ex, F.then_bad, F.then_ite, R.lift_ok, R.lift_ex, R.lift_bad, R.lift_ite, R.bind_ok, R.bind_ex, R.bind_bad, R.bind_ite, F.fin_nx, F.fin_rt, F.fin_ex, F.fin_bad, F.fin_ite, dVar, dC, bin, un, dAnd, dOr, dNot, tB', tAnd', tOr', tNot', dIf, asB_bl, aNil, aCons, dTup, mkT, dLst, mkL, seqOf, lstOf, fAdd, fPlus, dSl, oSome, oNone, asI, fInT, fStr, fIntT, fFmt, dFmt, dJs, fPart, fStarts, fFind, fIsdig, fIsasc, fMulS, fSub, fLt, fGt, fLe, fGe, fEq, fMod, fNeg, fPow, arity, dCall, dCallY, dCallK, dCallX, dSoSetL, dIsi2, fIsi2, noEx, dCB, fGcd, fMax2, fMin2, fInt, gN, gT, gAll, dIsi, fIsi, isTy, refOk, dIsN, dNotN, dIsB, dNotB, isNon, isBl, sz_lt, sz_le, sRaise, sTry, collapse_const, endX, dXf, dXis, dBM, dBM0, tTr, fTr, aStar, sRetN, fAbs, *])
local macro_rules | `(tactic| walk_at "u") => `(tactic| simp [fnF_eq, sSeq, sSet, sRet, sIf, sDrop, sNil, sAsg, sPar, sPut, F.then_nx, F.then_rt, F.then_bk, F.then_ct, F.then_ex, F.then_bad, F.then_ite, R.lift_ok, R.lift_ex, R.lift_bad, R.lift_ite, R.bind_ok, R.bind_ex, R.bind_bad, R.bind_ite, F.fin_nx, F.fin_rt, F.fin_ex, F.fin_bad, F.fin_ite, dVar, dC, bin, un, dAnd, dOr, dNot, tB', tAnd', tOr', tNot', dIf, asB_bl, aNil, aCons, dTup, mkT, dLst, mkL, seqOf, lstOf, fAdd, fPlus, dSl, oSome, oNone, asI, fInT, fStr, fIntT, fFmt, dFmt, dJs, fPart, fStarts, fFind, fIsdig, fIsasc, fMulS, fSub, fLt, fGt, fLe, fGe, fEq, fMod, fNeg, fPow, arity, dCall, dCallY, dCallK, dCallX, dSoSetL, dIsi2, fIsi2, noEx, dCB, fGcd, fMax2, fMin2, fInt, dIsi, fIsi, isTy, refOk, dIsN, dNotN, dIsB, dNotB, isNon, isBl, sz_lt, sz_le, sRaise, sTry, collapse_const, endX, dXf, dXis, dBM, dBM0, tTr, fTr, aStar, sRetN, fAbs, sFor, iAny, iRng1, iEn, *])
local macro_rules | `(tactic| walk_at "t") => `(tactic| simp [fnF_eq, sSeq, sSet, sRet, sIf, sDrop, sNil, sAsg, sPar, sPut, F.then_nx, F.then_rt, F.then_bk, F.then_ct, F.then_ex, F.then_bad, F.then_ite, R.lift_ok, R.lift_ex, R.lift_bad, R.lift_ite, R.bind_ok, R.bind_ex, R.bind_bad, R.bind_ite, F.fin_nx, F.fin_rt, F.fin_ex, F.fin_bad, F.fin_ite, dVar, dC, bin, un, dAnd, dOr, dNot, tB', tAnd', tOr', tNot', dIf, asB_bl, aNil, aCons, dTup, mkT, dLst, mkL, seqOf, lstOf, fAdd, dSl, oSome, oNone, asI, fInT, fStr, fIntT, fFmt, dFmt, dJs, fPart, fStarts, fFind, fIsdig, fIsasc, fMulS, fSub, fLt, fGt, fLe, fGe, fEq, fMod, fNeg, fPow, arity, dCall, dCallY, dCallK, dCallX, dSoSetL, dIsi2, fIsi2, noEx, dCB, fGcd, fMax2, fMin2, fInt, dIsi, fIsi, isTy, refOk, dIsN, dNotN, dIsB, dNotB, isNon, isBl, sz_lt, sz_le, sRaise, sTry, collapse_const, endX, dXf, dXis, dBM, dBM0, tTr, fTr, aStar, sRetN, fAbs, sFor, iAny, iRng1, iEn, *])
namespace K02
def oddL : List D := [.non, .bl true, .bl false, .int 0, .int 1, .int 2, .int (-1), .int 99, .int (-99), .int 100000000000, .str (PySem.Str.ofString ""), .str (PySem.Str.ofString "a"), .str (PySem.Str.ofString "0"), .tup [], .lst [], .tup [.int 0, .int 1], .lst [.int 0, .int 1],
  .tup [.int 1, .int 0], .tup [.int 2, .int 4], .tup [.bl true, .int 1], .tup [.int 2, .bl true], .tup [.int 0, .bl false], .tup [.bl false, .int 1], .tup [.tup [.int 0, .int 1], .non], .tup [.int 3, .int 2], .tup [.non], .tup [.int 1, .int 2, .int 3], .tup [.int 0, .int 2]]
theorem odd_eq {S rest : Sto} (hS : IsBox S rest) : ∃ d S', F_law_odd [.ref 1] S = .ok d S' ∧ IsBox S' rest ∧ d ∈ oddL := by
  obtain ⟨d, S', e, b, m⟩ := pick_gen (ds := oddL) hS (by decide) (by decide)
  refine ⟨d, S', ?_, b, m⟩
  unfold oddL at e
  have hp : L2.CPow 10 11 := ⟨by decide, by decide, by decide⟩
  have ow : ∀ xs : List D, ownOf S (.lst xs) = some xs := fun _ => rfl
  clear hS b m
  unfold F_law_odd
  walk_at "z"
end K02
end

section
set_option Elab.async false
set_option linter.all false
set_option maxRecDepth 100000
set_option maxHeartbeats 1000000
open Z
local macro_rules | `(tactic| walk_at "z") => `(tactic| simp [fnF_eq, sSeq, sSet, sRet, sIf, sDrop, sNil, sAsg, sPar, sPut, F.then_nx, F.then_rt, F.then_bk, F.then_ct, F.then_ex, F.then_bad, F.then_ite, R.lift_ok, R.lift_ex, R.lift_bad, R.lift_ite, R.bind_ok, R.bind_ex, R.bind_bad, R.bind_ite, F.fin_nx, F.fin_rt, F.fin_ex, F.fin_bad, F.fin_ite, dVar, dC, bin, un, dAnd, dOr, dNot, tB', tAnd', tOr', tNot', dIf, asB_bl, aNil, aCons, dTup, mkT, dLst, mkL, fIx, seqOf, lstOf, L2.atI, L2.ixN, fAdd, fPlus, dSl, oSome, oNone, asI, fSl, fInT, fStr, fIntT, fFmt, dFmt, dJs, fPart, fStarts, fFind, fIsdig, fIsasc, fMulS, fSub, fMul, fLt, fGt, fLe, fGe, fEq, fDiv, fMod, fNeg, fPow, arity, dCall, dCallY, dCallK, dCallX, dSoSetL, dIsi2, fIsi2, noEx, dCB, fGcd, fLen, fMax2, fMin2, fInt, gN, gT, gAll, dIsi, fIsi, isTy, refOk, dIsN, dNotN, dIsB, dNotB, isNon, isBl, sz_lt, sz_le, sRaise, sTry, collapse_const, endX, dXf, dXis, dBM, dBM0, fPop, fApp, fRevM, fIns, fPopAt, tTr, fTr, aStar, dSoSet, sRetN, fTuple, fAbs, tyD, *])
local macro_rules | `(tactic| walk_at "y") => `(tactic| simp [fnF_eq, sSeq, sSet, sRet, sIf, sDrop, sNil, sAsg, sPar, sPut, F.then_nx, F.then_rt, F.then_bk, F.then_ct, F.then_ex, F.then_bad, F.then_ite, R.lift_ok, R.lift_ex, R.lift_bad, R.lift_ite, R.bind_ok, R.bind_ex, R.bind_bad, R.bind_ite, F.fin_nx, F.fin_rt, F.fin_ex, F.fin_bad, F.fin_ite, dVar, dC, bin, un, dAnd, dOr, dNot, tB', tAnd', tOr', tNot', dIf, asB_bl, aNil, aCons, dTup, mkT, dLst, mkL, fIx, seqOf, lstOf, L2.atI, L2.ixN, fAdd, fPlus, dSl, oSome, oNone, asI, fSl, fInT, fStr, fIntT, fFmt, dFmt, dJs, fPart, fStarts, fFind, fIsdig, fIsasc, fMulS, fSub, fMul, fLt, fGt, fLe, fGe, fEq, fDiv, fMod, fNeg, fPow, arity, dCall, dCallY, dCallK, dCallX, dSoSetL, dIsi2, fIsi2, noEx, dCB, fGcd, fLen, fMax2, fMin2, fInt, sFor, iRng1, fRng1, iSeq, asSeq, iAny, asAny, dIsi, fIsi, isTy, refOk, dIsN, dNotN, dIsB, dNotB, isNon, isBl, sz_lt, sz_le, sRaise, sTry, collapse_const, endX, dXf, dXis, dBM, dBM0, fPop, fApp, fRevM, fIns, fPopAt, tTr, fTr, aStar, dSoSet, sRetN, fTuple, fAbs, tyD, *])
local macro_rules | `(tactic| walk_at "v") => `(tactic| simp [fnF_eq, sSeq, sSet, sRet, sIf, sDrop, sNil, sAsg, sPar, sPut, F.then_nx, F.then_rt, F.then_bk, F.then_ct, F.then_ex, F.then_bad, F.then_ite, R.lift_ok, R.lift_ex, R.lift_bad, R.lift_ite, R.bind_ok, R.bind_ex, R.bind_bad, R.bind_ite, F.fin_nx, F.fin_rt, F.fin_ex, F.fin_bad, F.fin_ite, dVar, dC, bin, un, dAnd, dOr, dNot, tB', tAnd', tOr', tNot', dIf, asB_bl, aNil, aCons, dTup, mkT, dLst, mkL, seqOf, lstOf, fAdd, fPlus, dSl, oSome, oNone, asI, fInT, fStr, fIntT, fFmt, dFmt, dJs, fPart, fStarts, fFind, fIsdig, fIsasc, fMulS, fSub, fLt, fGt, fLe, fGe, fEq, fMod, fNeg, fPow, arity, dCall, dCallY, dCallK, dCallX, dSoSetL, dIsi2, fIsi2, noEx, dCB, fGcd, fMax2, fMin2, fInt, gN, gT, gAll, dIsi, fIsi, isTy, refOk, dIsN, dNotN, dIsB, dNotB, isNon, isBl, sz_lt, sz_le, sRaise, sTry, collapse_const, endX, dXf, dXis, dBM, dBM0, tTr, fTr, aStar, sRetN, fAbs, *])
local macro_rules | `(tactic| walk_at "u") => `(tactic| simp [fnF_eq, sSeq, sSet, sRet, sIf, sDrop, sNil, sAsg, sPar, sPut, F.then_nx, F.then_rt, F.then_bk, F.then_ct, F.then_ex, F.then_bad, F.then_ite, R.lift_ok, R.lift_ex, R.lift_bad, R.lift_ite, R.bind_ok, R.bind_ex, R.bind_bad, R.bind_ite, F.fin_nx, F.fin_rt, F.fin_ex, F.fin_bad, F.fin_ite, dVar, dC, bin, un, dAnd, dOr, dNot, tB', tAnd', tOr', tNot', dIf, asB_bl, aNil, aCons, dTup, mkT, dLst, mkL, seqOf, lstOf, fAdd, fPlus, dSl, oSome, oNone, asI, fInT, fStr, fIntT, fFmt, dFmt, dJs, fPart, fStarts, fFind, fIsdig, fIsasc, fMulS, fSub, fLt, fGt, fLe, fGe, fEq, fMod, fNeg, fPow, arity, dCall, dCallY, dCallK, dCallX, dSoSetL, dIsi2, fIsi2, noEx, dCB, fGcd, fMax2, fMin2, fInt, dIsi, fIsi, isTy, refOk, dIsN, dNotN, dIsB, dNotB, isNon, isBl, sz_lt, sz_le, sRaise, sTry, collapse_const, endX, dXf, dXis, dBM, dBM0, tTr, fTr, aStar, sRetN, fAbs, sFor, iAny, iRng1, iEn, *])
local macro_rules | `(tactic| walk_at "t") => `(tactic| simp [fnF_eq, sSeq, sSet, sRet, sIf, sDrop, sNil, sAsg, sPar, sPut, F.then_nx, F.then_rt, F.then_bk, F.then_ct, F.then_ex, F.then_bad, F.then_ite, R.lift_ok, R.lift_ex, R.lift_bad, R.lift_ite, R.bind_ok, R.bind_ex, R.bind_bad, R.bind_ite, F.fin_nx, F.fin_rt, F.fin_ex, F.fin_bad, F.fin_ite, dVar, dC, bin, un, dAnd, dOr, dNot, tB', tAnd', tOr', tNot', dIf, asB_bl, aNil, aCons, dTup, mkT, dLst, mkL, seqOf, lstOf, fAdd, dSl, oSome, oNone, asI, fInT, fStr, fIntT, fFmt, dFmt, dJs, fPart, fStarts, fFind, fIsdig, fIsasc, fMulS, fSub, fLt, fGt, fLe, fGe, fEq, fMod, fNeg, fPow, arity, dCall, dCallY, dCallK, dCallX, dSoSetL, dIsi2, fIsi2, noEx, dCB, fGcd, fMax2, fMin2, fInt, dIsi, fIsi, isTy, refOk, dIsN, dNotN, dIsB, dNotB, isNon, isBl, sz_lt, sz_le, sRaise, sTry, collapse_const, endX, dXf, dXis, dBM, dBM0, tTr, fTr, aStar, sRetN, fAbs, sFor, iAny, iRng1, iEn, *])
namespace K02
/-- a text of one sign or none -/
def ShortS (x : PySem.Str) : Prop := x.cps.size ≤ 1 ∧ ∀ c ∈ x.cps.toList, c < 16 ^ 8
/-- the values that the law makes, at most n deep -/
def Vd (L : Nat) (S : Sto) : Nat → D → Prop
  | _, .non => True
  | _, .bl _ => True
  | _, .int i => i.natAbs < 2 ^ 59 + L
  | _, .str x => ShortS x
  | n + 1, .tup xs => xs.length ≤ L ∧ ∀ x ∈ xs, Vd L S n x
  | n + 1, .lst xs => xs.length ≤ L ∧ ∀ x ∈ xs, Vd L S n x
  | n + 1, .ref m => 2 ≤ m ∧ ∃ xs, S[m]? = some (.lst xs) ∧ xs.length ≤ L ∧ ∀ x ∈ xs, Vd L S n x
  | _, _ => False
/-- the cells beyond the box stand -/
def Keeps2 (S S' : Sto) : Prop := ∀ (m : Nat) (c : Cell), 2 ≤ m → S[m]? = some c → S'[m]? = some c
theorem Keeps2.refl {S : Sto} : Keeps2 S S := fun _ _ _ h => h
theorem Keeps2.trans {S T U : Sto} (a : Keeps2 S T) (b : Keeps2 T U) : Keeps2 S U := fun m c h e => b m c h (a m c h e)
theorem Vd.keep {L : Nat} {S S' : Sto} (k : Keeps2 S S') : ∀ {n : Nat} {d : D}, Vd L S n d → Vd L S' n d := by
  intro n
  induction n with
  | zero => intro d h; cases d <;> first | exact h | exact h.elim
  | succ n ih =>
    intro d h
    cases d with
    | non => exact h
    | bl b => exact h
    | int i => exact h
    | str x => exact h
    | tup xs => exact ⟨h.1, fun x hx => ih (h.2 x hx)⟩
    | lst xs => exact ⟨h.1, fun x hx => ih (h.2 x hx)⟩
    | frz xs => exact h.elim
    | ref m =>
      obtain ⟨h2, xs, e, hl, g⟩ := h
      exact ⟨h2, xs, k m _ h2 e, hl, fun x hx => ih (g x hx)⟩
    | err a b c d => exact h.elim
theorem Vd.up {L : Nat} {S : Sto} : ∀ {n : Nat} {d : D}, Vd L S n d → Vd L S (n + 1) d := by
  intro n
  induction n with
  | zero => intro d h; cases d <;> first | exact h | exact h.elim
  | succ n ih =>
    intro d h
    cases d with
    | non => exact h
    | bl b => exact h
    | int i => exact h
    | str x => exact h
    | tup xs => exact ⟨h.1, fun x hx => ih (h.2 x hx)⟩
    | lst xs => exact ⟨h.1, fun x hx => ih (h.2 x hx)⟩
    | frz xs => exact h.elim
    | ref m =>
      obtain ⟨h2, xs, e, hl, g⟩ := h
      exact ⟨h2, xs, e, hl, fun x hx => ih (g x hx)⟩
    | err a b c d => exact h.elim
theorem Vd.mono {L : Nat} {S : Sto} {n m : Nat} {d : D} (h : Vd L S n d) (hm : n ≤ m) : Vd L S m d := by
  obtain ⟨k, rfl⟩ := Nat.exists_eq_add_of_le hm
  clear hm
  induction k with
  | zero => exact h
  | succ k ih => exact ih.up
theorem Vd.ref {L : Nat} {S : Sto} {n : Nat} {d : D} (h : Vd L S n d) : refOk S d = true := by
  cases d with
  | ref m =>
    cases n with
    | zero => exact h.elim
    | succ n =>
      obtain ⟨_, xs, e, _⟩ := h
      simp [refOk, e]
  | err a b c d => cases n <;> exact h.elim
  | _ => rfl
theorem Vd.tup {L : Nat} {S : Sto} {n : Nat} {xs : List D} (h : Vd L S n (.tup xs)) : xs.length ≤ L ∧ ∀ x ∈ xs, Vd L S n x := by
  cases n with
  | zero => exact h.elim
  | succ n => exact ⟨h.1, fun x hx => (h.2 x hx).up⟩
theorem Vd.int {L : Nat} {S : Sto} {n : Nat} {i : Int} (h : Vd L S n (.int i)) : i.natAbs < 2 ^ 59 + L := by
  cases n <;> exact h
theorem Vd.o1 {L : Nat} {S : Sto} {n : Nat} {d : D} (h : Vd L S n d) : Ok1 S d := ⟨h.ref, fun xs e x hx => by subst e; exact (h.tup.2 x hx).ref⟩
theorem Vd.o2 {L : Nat} {S : Sto} {n : Nat} {d : D} (h : Vd L S n d) : Ok2 S d := ⟨h.ref, fun xs e x hx => by subst e; exact (h.tup.2 x hx).o1⟩
theorem Vd.o3 {L : Nat} {S : Sto} {n : Nat} {d : D} (h : Vd L S n d) : Ok3 S d := ⟨h.ref, fun xs e x hx => by subst e; exact (h.tup.2 x hx).o2⟩
theorem Vd.sm1 {L : Nat} {S : Sto} {n : Nat} {d : D} (h : Vd L S n d) (hL : L ≤ 1000) : ∀ p q, d = .tup [.int p, .int q] → sm 249 q := fun p q e => by
  subst e
  have := (h.tup.2 (.int q) (by simp)).int
  exact Nat.lt_of_lt_of_le (show q.natAbs < 2 ^ 60 by omega) (by decide)
theorem Vd.okV {L : Nat} {S : Sto} {n : Nat} {d : D} (h : Vd L S n d) (hL : L ≤ 1000) : OkV S d :=
  ⟨h.o3, h.sm1 hL, fun xs e x hx => by subst e; exact (h.tup.2 x hx).sm1 hL, fun xs e => by subst e; exact Nat.le_trans h.tup.1 hL, fun xs e x hx ys e2 => by subst e; subst e2; exact Nat.le_trans (h.tup.2 _ hx).tup.1 hL⟩
theorem Vd.grow {S : Sto} {L M : Nat} (hM : L ≤ M) : ∀ {n : Nat} {d : D}, Vd L S n d → Vd M S n d := by
  intro n
  induction n with
  | zero =>
    intro d h
    cases d with
    | int i => exact Nat.lt_of_lt_of_le h (by omega)
    | _ => first | exact h | exact h.elim
  | succ n ih =>
    intro d h
    cases d with
    | non => exact h
    | bl b => exact h
    | int i => exact Nat.lt_of_lt_of_le h (by omega)
    | str x => exact h
    | tup xs => exact ⟨Nat.le_trans h.1 hM, fun x hx => ih (h.2 x hx)⟩
    | lst xs => exact ⟨Nat.le_trans h.1 hM, fun x hx => ih (h.2 x hx)⟩
    | frz xs => exact h.elim
    | ref m =>
      obtain ⟨h2, xs, e, hl, g⟩ := h
      exact ⟨h2, xs, e, Nat.le_trans hl hM, fun x hx => ih (g x hx)⟩
    | err a b c d => exact h.elim
theorem odd_vd {L : Nat} {S : Sto} {d : D} (h : d ∈ oddL) (hL : 7 ≤ L) : Vd L S 2 d := by
  unfold oddL at h
  simp only [List.mem_cons, List.not_mem_nil, or_false] at h
  rcases h with rfl | rfl | rfl | rfl | rfl | rfl | rfl | rfl | rfl | rfl | rfl | rfl | rfl | rfl | rfl | rfl | rfl | rfl | rfl | rfl | rfl | rfl | rfl | rfl | rfl | rfl | rfl | rfl <;> simp [Vd] <;> first | omega | decide | exact ⟨by decide, by decide⟩ | (refine ⟨?_, ?_⟩ <;> first | omega | decide)
end K02
end

section
set_option Elab.async false
set_option linter.all false
set_option maxRecDepth 100000
set_option maxHeartbeats 1000000
open Z
local macro_rules | `(tactic| walk_at "z") => `(tactic| simp [fnF_eq, sSeq, sSet, sRet, sIf, sDrop, sNil, sAsg, sPar, sPut, F.then_nx, F.then_rt, F.then_bk, F.then_ct, F.then_ex, F.then_bad, F.then_ite, R.lift_ok, R.lift_ex, R.lift_bad, R.lift_ite, R.bind_ok, R.bind_ex, R.bind_bad, R.bind_ite, F.fin_nx, F.fin_rt, F.fin_ex, F.fin_bad, F.fin_ite, dVar, dC, bin, un, dAnd, dOr, dNot, tB', tAnd', tOr', tNot', dIf, asB_bl, aNil, aCons, dTup, mkT, dLst, mkL, fIx, seqOf, lstOf, L2.atI, L2.ixN, fAdd, fPlus, dSl, oSome, oNone, asI, fSl, fInT, fStr, fIntT, fFmt, dFmt, dJs, fPart, fStarts, fFind, fIsdig, fIsasc, fMulS, fSub, fMul, fLt, fGt, fLe, fGe, fEq, fDiv, fMod, fNeg, fPow, arity, dCall, dCallY, dCallK, dCallX, dSoSetL, dIsi2, fIsi2, noEx, dCB, fGcd, fLen, fMax2, fMin2, fInt, gN, gT, gAll, dIsi, fIsi, isTy, refOk, dIsN, dNotN, dIsB, dNotB, isNon, isBl, sz_lt, sz_le, sRaise, sTry, collapse_const, endX, dXf, dXis, dBM, dBM0, fPop, fApp, fRevM, fIns, fPopAt, tTr, fTr, aStar, dSoSet, sRetN, fTuple, fAbs, tyD, *])
local macro_rules | `(tactic| walk_at "y") => `(tactic| simp [fnF_eq, sSeq, sSet, sRet, sIf, sDrop, sNil, sAsg, sPar, sPut, F.then_nx, F.then_rt, F.then_bk, F.then_ct, F.then_ex, F.then_bad, F.then_ite, R.lift_ok, R.lift_ex, R.lift_bad, R.lift_ite, R.bind_ok, R.bind_ex, R.bind_bad, R.bind_ite, F.fin_nx, F.fin_rt, F.fin_ex, F.fin_bad, F.fin_ite, dVar, dC, bin, un, dAnd, dOr, dNot, tB', tAnd', tOr', tNot', dIf, asB_bl, aNil, aCons, dTup, mkT, dLst, mkL, fIx, seqOf, lstOf, L2.atI, L2.ixN, fAdd, fPlus, dSl, oSome, oNone, asI, fSl, fInT, fStr, fIntT, fFmt, dFmt, dJs, fPart, fStarts, fFind, fIsdig, fIsasc, fMulS, fSub, fMul, fLt, fGt, fLe, fGe, fEq, fDiv, fMod, fNeg, fPow, arity, dCall, dCallY, dCallK, dCallX, dSoSetL, dIsi2, fIsi2, noEx, dCB, fGcd, fLen, fMax2, fMin2, fInt, sFor, iRng1, fRng1, iSeq, asSeq, iAny, asAny, dIsi, fIsi, isTy, refOk, dIsN, dNotN, dIsB, dNotB, isNon, isBl, sz_lt, sz_le, sRaise, sTry, collapse_const, endX, dXf, dXis, dBM, dBM0, fPop, fApp, fRevM, fIns, fPopAt, tTr, fTr, aStar, dSoSet, sRetN, fTuple, fAbs, tyD, *])
local macro_rules | `(tactic| walk_at "v") => `(tactic| simp [fnF_eq, sSeq, sSet, sRet, sIf, sDrop, sNil, sAsg, sPar, sPut, F.then_nx, F.then_rt, F.then_bk, F.then_ct, F.then_ex, F.then_bad, F.then_ite, R.lift_ok, R.lift_ex, R.lift_bad, R.lift_ite, R.bind_ok, R.bind_ex, R.bind_bad, R.bind_ite, F.fin_nx, F.fin_rt, F.fin_ex, F.fin_bad, F.fin_ite, dVar, dC, bin, un, dAnd, dOr, dNot, tB', tAnd', tOr', tNot', dIf, asB_bl, aNil, aCons, dTup, mkT, dLst, mkL, seqOf, lstOf, fAdd, fPlus, dSl, oSome, oNone, asI, fInT, fStr, fIntT, fFmt, dFmt, dJs, fPart, fStarts, fFind, fIsdig, fIsasc, fMulS, fSub, fLt, fGt, fLe, fGe, fEq, fMod, fNeg, fPow, arity, dCall, dCallY, dCallK, dCallX, dSoSetL, dIsi2, fIsi2, noEx, dCB, fGcd, fMax2, fMin2, fInt, gN, gT, gAll, dIsi, fIsi, isTy, refOk, dIsN, dNotN, dIsB, dNotB, isNon, isBl, sz_lt, sz_le, sRaise, sTry, collapse_const, endX, dXf, dXis, dBM, dBM0, tTr, fTr, aStar, sRetN, fAbs, *])
local macro_rules | `(tactic| walk_at "u") => `(tactic| simp [fnF_eq, sSeq, sSet, sRet, sIf, sDrop, sNil, sAsg, sPar, sPut, F.then_nx, F.then_rt, F.then_bk, F.then_ct, F.then_ex, F.then_bad, F.then_ite, R.lift_ok, R.lift_ex, R.lift_bad, R.lift_ite, R.bind_ok, R.bind_ex, R.bind_bad, R.bind_ite, F.fin_nx, F.fin_rt, F.fin_ex, F.fin_bad, F.fin_ite, dVar, dC, bin, un, dAnd, dOr, dNot, tB', tAnd', tOr', tNot', dIf, asB_bl, aNil, aCons, dTup, mkT, dLst, mkL, seqOf, lstOf, fAdd, fPlus, dSl, oSome, oNone, asI, fInT, fStr, fIntT, fFmt, dFmt, dJs, fPart, fStarts, fFind, fIsdig, fIsasc, fMulS, fSub, fLt, fGt, fLe, fGe, fEq, fMod, fNeg, fPow, arity, dCall, dCallY, dCallK, dCallX, dSoSetL, dIsi2, fIsi2, noEx, dCB, fGcd, fMax2, fMin2, fInt, dIsi, fIsi, isTy, refOk, dIsN, dNotN, dIsB, dNotB, isNon, isBl, sz_lt, sz_le, sRaise, sTry, collapse_const, endX, dXf, dXis, dBM, dBM0, tTr, fTr, aStar, sRetN, fAbs, sFor, iAny, iRng1, iEn, *])
local macro_rules | `(tactic| walk_at "t") => `(tactic| simp [fnF_eq, sSeq, sSet, sRet, sIf, sDrop, sNil, sAsg, sPar, sPut, F.then_nx, F.then_rt, F.then_bk, F.then_ct, F.then_ex, F.then_bad, F.then_ite, R.lift_ok, R.lift_ex, R.lift_bad, R.lift_ite, R.bind_ok, R.bind_ex, R.bind_bad, R.bind_ite, F.fin_nx, F.fin_rt, F.fin_ex, F.fin_bad, F.fin_ite, dVar, dC, bin, un, dAnd, dOr, dNot, tB', tAnd', tOr', tNot', dIf, asB_bl, aNil, aCons, dTup, mkT, dLst, mkL, seqOf, lstOf, fAdd, dSl, oSome, oNone, asI, fInT, fStr, fIntT, fFmt, dFmt, dJs, fPart, fStarts, fFind, fIsdig, fIsasc, fMulS, fSub, fLt, fGt, fLe, fGe, fEq, fMod, fNeg, fPow, arity, dCall, dCallY, dCallK, dCallX, dSoSetL, dIsi2, fIsi2, noEx, dCB, fGcd, fMax2, fMin2, fInt, dIsi, fIsi, isTy, refOk, dIsN, dNotN, dIsB, dNotB, isNon, isBl, sz_lt, sz_le, sRaise, sTry, collapse_const, endX, dXf, dXis, dBM, dBM0, tTr, fTr, aStar, sRetN, fAbs, sFor, iAny, iRng1, iEn, *])
namespace K02
theorem box_keeps {S S' rest more : Sto} (a : IsBox S rest) (b : IsBox S' (rest ++ more)) : Keeps2 S S' := by
  obtain ⟨g1, x1, s1, c1, rfl⟩ := a
  obtain ⟨g2, x2, s2, c2, rfl⟩ := b
  intro m c h e
  obtain ⟨k, rfl⟩ := Nat.exists_eq_add_of_le h
  have e1 : ∀ g x s c r, (Bx g x s c r)[2 + k]? = r[k]? := fun g x s c r => by
    rw [Nat.add_comm]; rfl
  rw [e1] at e ⊢
  rw [List.getElem?_append_left (List.getElem?_eq_some_iff.mp e).1]
  exact e
theorem box_keep {S S' rest : Sto} (a : IsBox S rest) (b : IsBox S' rest) : Keeps2 S S' := box_keeps (more := []) a (by rw [List.append_nil]; exact b)
theorem vd_mo {S : Sto} {p q : Int} (h : 0 ≤ p ∧ p < 2 ^ 59) (k : 0 ≤ q ∧ q < 2 ^ 59) : Vd 7 S 1 (mo p q) := by
  refine ⟨by simp, fun x hx => ?_⟩
  simp only [List.mem_cons, List.not_mem_nil, or_false] at hx
  rcases hx with rfl | rfl
  · show p.natAbs < 2 ^ 59 + 7
    omega
  · show q.natAbs < 2 ^ 59 + 7
    omega
theorem good_moment_eq {S rest : Sto} (hS : IsBox S rest) : ∃ d S', F_law_good_moment [.ref 1] S = .ok d S' ∧ IsBox S' rest ∧ ∀ T, Vd 7 T 1 d := by
  obtain ⟨c, S1, e1, b1, h1, h2⟩ := draw_eq (n := 6) hS (by decide) (by decide)
  by_cases c0 : c = 0
  · subst c0
    refine ⟨mo 0 1, S1, ?_, b1, fun _ => vd_mo (by decide) (by decide)⟩
    clear hS b1 h1 h2
    unfold F_law_good_moment
    walk_at "z"
  by_cases c1 : c = 1
  · subst c1
    obtain ⟨t, S2, e2, b2, t1, t2⟩ := draw_eq (n := 100) b1 (by decide) (by decide)
    refine ⟨mo t 1, S2, ?_, b2, fun _ => vd_mo ⟨t1, by omega⟩ (by decide)⟩
    clear hS b1 b2 h1 h2 t1 t2 c0
    unfold F_law_good_moment
    walk_at "z"
  obtain ⟨t, S2, e2, b2, t1, t2⟩ := draw_eq (n := 41) b1 (by decide) (by decide)
  obtain ⟨u, S3, e3, b3, u1, u2⟩ := draw_eq (n := 12) b2 (by decide) (by decide)
  by_cases c2 : c = 2
  · subst c2
    obtain ⟨v, S4, e4, b4, v1, v2⟩ := wide_eq b3
    obtain ⟨w, S5, e5, b5, w1, w2⟩ := wide_eq b4
    have hm : (if 1 < w then w else 1) = max 1 w := by
      split <;> omega
    have hb : 0 < max 1 w := by omega
    have hk : sm 249 (max 1 w) := by
      have : (max 1 w).natAbs < 2 ^ 60 := by omega
      exact Nat.lt_of_lt_of_le this (by decide)
    have hg := law_gcd_eq (S := S5) v1 (Int.le_of_lt hb) hk
    have hd := g_ok (a := v) hb (hk.mono (by decide))
    have gp := g_pos (a := v) hb
    refine ⟨mo (v / g v (max 1 w)) (max 1 w / g v (max 1 w)), S5, ?_, b5, fun _ => vd_mo ⟨Int.ediv_nonneg v1 (Int.le_of_lt gp), ?_⟩ ⟨Int.ediv_nonneg (Int.le_of_lt hb) (Int.le_of_lt gp), ?_⟩⟩
    · clear hS b1 b2 b3 b4 b5 h1 h2 t1 t2 u1 u2 v1 v2 w1 w2 c0 c1 hb hk gp
      unfold F_law_good_moment
      walk_at "z"
    · exact Int.lt_of_le_of_lt (Int.ediv_le_self _ v1) (by omega)
    · exact Int.lt_of_le_of_lt (Int.ediv_le_self _ (Int.le_of_lt hb)) (by omega)
  by_cases c3 : c = 3
  · subst c3
    refine ⟨mo t (1 + u), S3, ?_, b3, fun _ => vd_mo ⟨t1, by omega⟩ ⟨by omega, by omega⟩⟩
    clear hS b1 b2 b3 h1 h2 t1 t2 u1 u2 c0 c1 c2
    unfold F_law_good_moment
    walk_at "z"
  have hb : 0 < 1 + u := by omega
  have hk : sm 249 (1 + u) := by
    have : (1 + u).natAbs < 2 ^ 60 := by omega
    exact Nat.lt_of_lt_of_le this (by decide)
  have hg := law_gcd_eq (S := S3) t1 (Int.le_of_lt hb) hk
  have hd := g_ok (a := t) hb (hk.mono (by decide))
  have gp := g_pos (a := t) hb
  refine ⟨mo (t / g t (1 + u)) ((1 + u) / g t (1 + u)), S3, ?_, b3, fun _ => vd_mo ⟨Int.ediv_nonneg t1 (Int.le_of_lt gp), ?_⟩ ⟨Int.ediv_nonneg (Int.le_of_lt hb) (Int.le_of_lt gp), ?_⟩⟩
  · clear hS b1 b2 b3 h1 h2 t1 t2 u1 u2 hb hk gp
    unfold F_law_good_moment
    walk_at "z"
  · exact Int.lt_of_le_of_lt (Int.ediv_le_self _ t1) (by omega)
  · exact Int.lt_of_le_of_lt (Int.ediv_le_self _ (Int.le_of_lt hb)) (by omega)
end K02
end

section
set_option Elab.async false
set_option linter.all false
set_option maxRecDepth 100000
set_option maxHeartbeats 1000000
open Z
local macro_rules | `(tactic| walk_at "z") => `(tactic| simp [fnF_eq, sSeq, sSet, sRet, sIf, sDrop, sNil, sAsg, sPar, sPut, F.then_nx, F.then_rt, F.then_bk, F.then_ct, F.then_ex, F.then_bad, F.then_ite, R.lift_ok, R.lift_ex, R.lift_bad, R.lift_ite, R.bind_ok, R.bind_ex, R.bind_bad, R.bind_ite, F.fin_nx, F.fin_rt, F.fin_ex, F.fin_bad, F.fin_ite, dVar, dC, bin, un, dAnd, dOr, dNot, tB', tAnd', tOr', tNot', dIf, asB_bl, aNil, aCons, dTup, mkT, dLst, mkL, fIx, seqOf, lstOf, L2.atI, L2.ixN, fAdd, fPlus, dSl, oSome, oNone, asI, fSl, fInT, fStr, fIntT, fFmt, dFmt, dJs, fPart, fStarts, fFind, fIsdig, fIsasc, fMulS, fSub, fMul, fLt, fGt, fLe, fGe, fEq, fDiv, fMod, fNeg, fPow, arity, dCall, dCallY, dCallK, dCallX, dSoSetL, dIsi2, fIsi2, noEx, dCB, fGcd, fLen, fMax2, fMin2, fInt, gN, gT, gAll, dIsi, fIsi, isTy, refOk, dIsN, dNotN, dIsB, dNotB, isNon, isBl, sz_lt, sz_le, sRaise, sTry, collapse_const, endX, dXf, dXis, dBM, dBM0, fPop, fApp, fRevM, fIns, fPopAt, tTr, fTr, aStar, dSoSet, sRetN, fTuple, fAbs, tyD, *])
local macro_rules | `(tactic| walk_at "y") => `(tactic| simp [fnF_eq, sSeq, sSet, sRet, sIf, sDrop, sNil, sAsg, sPar, sPut, F.then_nx, F.then_rt, F.then_bk, F.then_ct, F.then_ex, F.then_bad, F.then_ite, R.lift_ok, R.lift_ex, R.lift_bad, R.lift_ite, R.bind_ok, R.bind_ex, R.bind_bad, R.bind_ite, F.fin_nx, F.fin_rt, F.fin_ex, F.fin_bad, F.fin_ite, dVar, dC, bin, un, dAnd, dOr, dNot, tB', tAnd', tOr', tNot', dIf, asB_bl, aNil, aCons, dTup, mkT, dLst, mkL, fIx, seqOf, lstOf, L2.atI, L2.ixN, fAdd, fPlus, dSl, oSome, oNone, asI, fSl, fInT, fStr, fIntT, fFmt, dFmt, dJs, fPart, fStarts, fFind, fIsdig, fIsasc, fMulS, fSub, fMul, fLt, fGt, fLe, fGe, fEq, fDiv, fMod, fNeg, fPow, arity, dCall, dCallY, dCallK, dCallX, dSoSetL, dIsi2, fIsi2, noEx, dCB, fGcd, fLen, fMax2, fMin2, fInt, sFor, iRng1, fRng1, iSeq, asSeq, iAny, asAny, dIsi, fIsi, isTy, refOk, dIsN, dNotN, dIsB, dNotB, isNon, isBl, sz_lt, sz_le, sRaise, sTry, collapse_const, endX, dXf, dXis, dBM, dBM0, fPop, fApp, fRevM, fIns, fPopAt, tTr, fTr, aStar, dSoSet, sRetN, fTuple, fAbs, tyD, *])
local macro_rules | `(tactic| walk_at "v") => `(tactic| simp [fnF_eq, sSeq, sSet, sRet, sIf, sDrop, sNil, sAsg, sPar, sPut, F.then_nx, F.then_rt, F.then_bk, F.then_ct, F.then_ex, F.then_bad, F.then_ite, R.lift_ok, R.lift_ex, R.lift_bad, R.lift_ite, R.bind_ok, R.bind_ex, R.bind_bad, R.bind_ite, F.fin_nx, F.fin_rt, F.fin_ex, F.fin_bad, F.fin_ite, dVar, dC, bin, un, dAnd, dOr, dNot, tB', tAnd', tOr', tNot', dIf, asB_bl, aNil, aCons, dTup, mkT, dLst, mkL, seqOf, lstOf, fAdd, fPlus, dSl, oSome, oNone, asI, fInT, fStr, fIntT, fFmt, dFmt, dJs, fPart, fStarts, fFind, fIsdig, fIsasc, fMulS, fSub, fLt, fGt, fLe, fGe, fEq, fMod, fNeg, fPow, arity, dCall, dCallY, dCallK, dCallX, dSoSetL, dIsi2, fIsi2, noEx, dCB, fGcd, fMax2, fMin2, fInt, gN, gT, gAll, dIsi, fIsi, isTy, refOk, dIsN, dNotN, dIsB, dNotB, isNon, isBl, sz_lt, sz_le, sRaise, sTry, collapse_const, endX, dXf, dXis, dBM, dBM0, tTr, fTr, aStar, sRetN, fAbs, *])
local macro_rules | `(tactic| walk_at "u") => `(tactic| simp [fnF_eq, sSeq, sSet, sRet, sIf, sDrop, sNil, sAsg, sPar, sPut, F.then_nx, F.then_rt, F.then_bk, F.then_ct, F.then_ex, F.then_bad, F.then_ite, R.lift_ok, R.lift_ex, R.lift_bad, R.lift_ite, R.bind_ok, R.bind_ex, R.bind_bad, R.bind_ite, F.fin_nx, F.fin_rt, F.fin_ex, F.fin_bad, F.fin_ite, dVar, dC, bin, un, dAnd, dOr, dNot, tB', tAnd', tOr', tNot', dIf, asB_bl, aNil, aCons, dTup, mkT, dLst, mkL, seqOf, lstOf, fAdd, fPlus, dSl, oSome, oNone, asI, fInT, fStr, fIntT, fFmt, dFmt, dJs, fPart, fStarts, fFind, fIsdig, fIsasc, fMulS, fSub, fLt, fGt, fLe, fGe, fEq, fMod, fNeg, fPow, arity, dCall, dCallY, dCallK, dCallX, dSoSetL, dIsi2, fIsi2, noEx, dCB, fGcd, fMax2, fMin2, fInt, dIsi, fIsi, isTy, refOk, dIsN, dNotN, dIsB, dNotB, isNon, isBl, sz_lt, sz_le, sRaise, sTry, collapse_const, endX, dXf, dXis, dBM, dBM0, tTr, fTr, aStar, sRetN, fAbs, sFor, iAny, iRng1, iEn, *])
local macro_rules | `(tactic| walk_at "t") => `(tactic| simp [fnF_eq, sSeq, sSet, sRet, sIf, sDrop, sNil, sAsg, sPar, sPut, F.then_nx, F.then_rt, F.then_bk, F.then_ct, F.then_ex, F.then_bad, F.then_ite, R.lift_ok, R.lift_ex, R.lift_bad, R.lift_ite, R.bind_ok, R.bind_ex, R.bind_bad, R.bind_ite, F.fin_nx, F.fin_rt, F.fin_ex, F.fin_bad, F.fin_ite, dVar, dC, bin, un, dAnd, dOr, dNot, tB', tAnd', tOr', tNot', dIf, asB_bl, aNil, aCons, dTup, mkT, dLst, mkL, seqOf, lstOf, fAdd, dSl, oSome, oNone, asI, fInT, fStr, fIntT, fFmt, dFmt, dJs, fPart, fStarts, fFind, fIsdig, fIsasc, fMulS, fSub, fLt, fGt, fLe, fGe, fEq, fMod, fNeg, fPow, arity, dCall, dCallY, dCallK, dCallX, dSoSetL, dIsi2, fIsi2, noEx, dCB, fGcd, fMax2, fMin2, fInt, dIsi, fIsi, isTy, refOk, dIsN, dNotN, dIsB, dNotB, isNon, isBl, sz_lt, sz_le, sRaise, sTry, collapse_const, endX, dXf, dXis, dBM, dBM0, tTr, fTr, aStar, sRetN, fAbs, sFor, iAny, iRng1, iEn, *])
namespace K02
theorem vd_ed {S : Sto} {p q : Int} (h : -(2 ^ 59) < p ∧ p < 2 ^ 59) (k : 0 ≤ q ∧ q < 2 ^ 59) : Vd 7 S 1 (mo p q) := by
  refine ⟨by simp, fun x hx => ?_⟩
  simp only [List.mem_cons, List.not_mem_nil, or_false] at hx
  rcases hx with rfl | rfl
  · show p.natAbs < 2 ^ 59 + 7
    omega
  · show q.natAbs < 2 ^ 59 + 7
    omega
theorem vd_two {S : Sto} {n : Nat} {a b : D} (h : Vd 7 S n a) (k : Vd 7 S n b) : Vd 7 S (n + 1) (.tup [a, b]) := by
  refine ⟨by simp, fun x hx => ?_⟩
  simp only [List.mem_cons, List.not_mem_nil, or_false] at hx
  rcases hx with rfl | rfl
  · exact h
  · exact k
theorem vd_non {S : Sto} {n : Nat} : Vd 7 S n .non := by cases n <;> trivial
/-- a size drawn from a written list -/
theorem pick_int {ns : List Int} {S rest : Sto} (hS : IsBox S rest) (hm : 0 < ns.length) (hl : ns.length ≤ 1000) : ∃ i S', F_law_pick [.ref 1, .lst (ns.map D.int)] S = .ok (.int i) S' ∧ IsBox S' rest ∧ i ∈ ns := by
  obtain ⟨d, S', e, b, m⟩ := pick_gen (ds := ns.map D.int) hS (by simpa using hm) (by simpa using hl)
  obtain ⟨i, hi, rfl⟩ := List.mem_map.mp m
  exact ⟨i, S', e, b, hi⟩
theorem good_cap_eq {S rest : Sto} (hS : IsBox S rest) : ∃ d S', F_law_good_cap [.ref 1] S = .ok d S' ∧ IsBox S' rest ∧ ∀ T, Vd 7 T 1 d := by
  obtain ⟨c, S1, e1, b1, h1, h2⟩ := draw_eq (n := 3) hS (by decide) (by decide)
  by_cases c0 : c = 0
  · subst c0
    refine ⟨.non, S1, ?_, b1, fun _ => vd_non⟩
    clear hS b1 h1 h2
    unfold F_law_good_cap
    walk_at "z"
  obtain ⟨t, S2, e2, b2, t1, t2⟩ := draw_eq (n := 199) b1 (by decide) (by decide)
  obtain ⟨u, S3, e3, b3, u1, u2⟩ := draw_eq (n := 2) b2 (by decide) (by decide)
  refine ⟨mo (t - 99) u, S3, ?_, b3, fun _ => vd_ed ⟨by omega, by omega⟩ ⟨u1, by omega⟩⟩
  clear hS b1 b2 b3 h1 h2 t1 t2 u1 u2
  unfold F_law_good_cap
  walk_at "z"
theorem good_span_eq {S rest : Sto} (hS : IsBox S rest) : ∃ d S', F_law_good_span [.ref 1] S = .ok d S' ∧ IsBox S' rest ∧ ∀ T, Vd 7 T 2 d := by
  obtain ⟨n, S1, e1, b1, m1⟩ := pick_int (ns := [2, 5, 100]) hS (by decide) (by decide)
  have n1 : 2 ≤ n ∧ n ≤ 100 := by
    simp only [List.mem_cons, List.not_mem_nil, or_false] at m1
    omega
  simp only [List.map_cons, List.map_nil] at e1
  obtain ⟨l, S2, e2, b2, l1, l2⟩ := draw_eq (n := n) b1 (by omega) (by omega)
  obtain ⟨r, S3, e3, b3, r1, r2⟩ := draw_eq (n := 2) b2 (by decide) (by decide)
  obtain ⟨c, S4, e4, b4, h1, h2⟩ := draw_eq (n := 4) b3 (by decide) (by decide)
  by_cases c0 : c = 0
  · subst c0
    refine ⟨.tup [mo l r, .non], S4, ?_, b4, fun _ => vd_two (vd_ed ⟨by omega, by omega⟩ ⟨r1, by omega⟩) vd_non⟩
    clear hS b1 b2 b3 b4 h1 h2 m1 n1 l1 l2 r1 r2
    unfold F_law_good_span
    walk_at "z"
  by_cases c1 : c = 1
  · subst c1
    obtain ⟨u, S5, e5, b5, u1, u2⟩ := draw_eq (n := 2) b4 (by decide) (by decide)
    refine ⟨.tup [mo l r, mo l u], S5, ?_, b5, fun _ => vd_two (vd_ed ⟨by omega, by omega⟩ ⟨r1, by omega⟩) (vd_ed ⟨by omega, by omega⟩ ⟨u1, by omega⟩)⟩
    clear hS b1 b2 b3 b4 b5 h1 h2 m1 n1 l1 l2 r1 r2 u1 u2 c0
    unfold F_law_good_span
    walk_at "z"
  obtain ⟨k, S5, e5, b5, m5⟩ := pick_int (ns := [3, 100]) b4 (by decide) (by decide)
  have k1 : 3 ≤ k ∧ k ≤ 100 := by
    simp only [List.mem_cons, List.not_mem_nil, or_false] at m5
    omega
  simp only [List.map_cons, List.map_nil] at e5
  obtain ⟨v, S6, e6, b6, v1, v2⟩ := draw_eq (n := k) b5 (by omega) (by omega)
  obtain ⟨u, S7, e7, b7, u1, u2⟩ := draw_eq (n := 2) b6 (by decide) (by decide)
  refine ⟨.tup [mo l r, mo (if l - 1 + v < 99 then l - 1 + v else 99) u], S7, ?_, b7, fun _ => vd_two (vd_ed ⟨by omega, by omega⟩ ⟨r1, by omega⟩) (vd_ed (by split <;> omega) ⟨u1, by omega⟩)⟩
  clear hS b1 b2 b3 b4 b5 b6 b7 h1 h2 m1 m5 n1 k1 l1 l2 r1 r2 u1 u2 v1 v2
  unfold F_law_good_span
  walk_at "z"
end K02
end

section
set_option Elab.async false
set_option linter.all false
set_option maxRecDepth 100000
set_option maxHeartbeats 1000000
open Z
local macro_rules | `(tactic| walk_at "z") => `(tactic| simp [fnF_eq, sSeq, sSet, sRet, sIf, sDrop, sNil, sAsg, sPar, sPut, F.then_nx, F.then_rt, F.then_bk, F.then_ct, F.then_ex, F.then_bad, F.then_ite, R.lift_ok, R.lift_ex, R.lift_bad, R.lift_ite, R.bind_ok, R.bind_ex, R.bind_bad, R.bind_ite, F.fin_nx, F.fin_rt, F.fin_ex, F.fin_bad, F.fin_ite, dVar, dC, bin, un, dAnd, dOr, dNot, tB', tAnd', tOr', tNot', dIf, asB_bl, aNil, aCons, dTup, mkT, dLst, mkL, fIx, seqOf, lstOf, L2.atI, L2.ixN, fAdd, fPlus, dSl, oSome, oNone, asI, fSl, fInT, fStr, fIntT, fFmt, dFmt, dJs, fPart, fStarts, fFind, fIsdig, fIsasc, fMulS, fSub, fMul, fLt, fGt, fLe, fGe, fEq, fDiv, fMod, fNeg, fPow, arity, dCall, dCallY, dCallK, dCallX, dSoSetL, dIsi2, fIsi2, noEx, dCB, fGcd, fLen, fMax2, fMin2, fInt, gN, gT, gAll, dIsi, fIsi, isTy, refOk, dIsN, dNotN, dIsB, dNotB, isNon, isBl, sz_lt, sz_le, sRaise, sTry, collapse_const, endX, dXf, dXis, dBM, dBM0, fPop, fApp, fRevM, fIns, fPopAt, tTr, fTr, aStar, dSoSet, sRetN, fTuple, fAbs, tyD, *])
local macro_rules | `(tactic| walk_at "y") => `(tactic| simp [fnF_eq, sSeq, sSet, sRet, sIf, sDrop, sNil, sAsg, sPar, sPut, F.then_nx, F.then_rt, F.then_bk, F.then_ct, F.then_ex, F.then_bad, F.then_ite, R.lift_ok, R.lift_ex, R.lift_bad, R.lift_ite, R.bind_ok, R.bind_ex, R.bind_bad, R.bind_ite, F.fin_nx, F.fin_rt, F.fin_ex, F.fin_bad, F.fin_ite, dVar, dC, bin, un, dAnd, dOr, dNot, tB', tAnd', tOr', tNot', dIf, asB_bl, aNil, aCons, dTup, mkT, dLst, mkL, fIx, seqOf, lstOf, L2.atI, L2.ixN, fAdd, fPlus, dSl, oSome, oNone, asI, fSl, fInT, fStr, fIntT, fFmt, dFmt, dJs, fPart, fStarts, fFind, fIsdig, fIsasc, fMulS, fSub, fMul, fLt, fGt, fLe, fGe, fEq, fDiv, fMod, fNeg, fPow, arity, dCall, dCallY, dCallK, dCallX, dSoSetL, dIsi2, fIsi2, noEx, dCB, fGcd, fLen, fMax2, fMin2, fInt, sFor, iRng1, fRng1, iSeq, asSeq, iAny, asAny, dIsi, fIsi, isTy, refOk, dIsN, dNotN, dIsB, dNotB, isNon, isBl, sz_lt, sz_le, sRaise, sTry, collapse_const, endX, dXf, dXis, dBM, dBM0, fPop, fApp, fRevM, fIns, fPopAt, tTr, fTr, aStar, dSoSet, sRetN, fTuple, fAbs, tyD, *])
local macro_rules | `(tactic| walk_at "v") => `(tactic| simp [fnF_eq, sSeq, sSet, sRet, sIf, sDrop, sNil, sAsg, sPar, sPut, F.then_nx, F.then_rt, F.then_bk, F.then_ct, F.then_ex, F.then_bad, F.then_ite, R.lift_ok, R.lift_ex, R.lift_bad, R.lift_ite, R.bind_ok, R.bind_ex, R.bind_bad, R.bind_ite, F.fin_nx, F.fin_rt, F.fin_ex, F.fin_bad, F.fin_ite, dVar, dC, bin, un, dAnd, dOr, dNot, tB', tAnd', tOr', tNot', dIf, asB_bl, aNil, aCons, dTup, mkT, dLst, mkL, seqOf, lstOf, fAdd, fPlus, dSl, oSome, oNone, asI, fInT, fStr, fIntT, fFmt, dFmt, dJs, fPart, fStarts, fFind, fIsdig, fIsasc, fMulS, fSub, fLt, fGt, fLe, fGe, fEq, fMod, fNeg, fPow, arity, dCall, dCallY, dCallK, dCallX, dSoSetL, dIsi2, fIsi2, noEx, dCB, fGcd, fMax2, fMin2, fInt, gN, gT, gAll, dIsi, fIsi, isTy, refOk, dIsN, dNotN, dIsB, dNotB, isNon, isBl, sz_lt, sz_le, sRaise, sTry, collapse_const, endX, dXf, dXis, dBM, dBM0, tTr, fTr, aStar, sRetN, fAbs, *])
local macro_rules | `(tactic| walk_at "u") => `(tactic| simp [fnF_eq, sSeq, sSet, sRet, sIf, sDrop, sNil, sAsg, sPar, sPut, F.then_nx, F.then_rt, F.then_bk, F.then_ct, F.then_ex, F.then_bad, F.then_ite, R.lift_ok, R.lift_ex, R.lift_bad, R.lift_ite, R.bind_ok, R.bind_ex, R.bind_bad, R.bind_ite, F.fin_nx, F.fin_rt, F.fin_ex, F.fin_bad, F.fin_ite, dVar, dC, bin, un, dAnd, dOr, dNot, tB', tAnd', tOr', tNot', dIf, asB_bl, aNil, aCons, dTup, mkT, dLst, mkL, seqOf, lstOf, fAdd, fPlus, dSl, oSome, oNone, asI, fInT, fStr, fIntT, fFmt, dFmt, dJs, fPart, fStarts, fFind, fIsdig, fIsasc, fMulS, fSub, fLt, fGt, fLe, fGe, fEq, fMod, fNeg, fPow, arity, dCall, dCallY, dCallK, dCallX, dSoSetL, dIsi2, fIsi2, noEx, dCB, fGcd, fMax2, fMin2, fInt, dIsi, fIsi, isTy, refOk, dIsN, dNotN, dIsB, dNotB, isNon, isBl, sz_lt, sz_le, sRaise, sTry, collapse_const, endX, dXf, dXis, dBM, dBM0, tTr, fTr, aStar, sRetN, fAbs, sFor, iAny, iRng1, iEn, *])
local macro_rules | `(tactic| walk_at "t") => `(tactic| simp [fnF_eq, sSeq, sSet, sRet, sIf, sDrop, sNil, sAsg, sPar, sPut, F.then_nx, F.then_rt, F.then_bk, F.then_ct, F.then_ex, F.then_bad, F.then_ite, R.lift_ok, R.lift_ex, R.lift_bad, R.lift_ite, R.bind_ok, R.bind_ex, R.bind_bad, R.bind_ite, F.fin_nx, F.fin_rt, F.fin_ex, F.fin_bad, F.fin_ite, dVar, dC, bin, un, dAnd, dOr, dNot, tB', tAnd', tOr', tNot', dIf, asB_bl, aNil, aCons, dTup, mkT, dLst, mkL, seqOf, lstOf, fAdd, dSl, oSome, oNone, asI, fInT, fStr, fIntT, fFmt, dFmt, dJs, fPart, fStarts, fFind, fIsdig, fIsasc, fMulS, fSub, fLt, fGt, fLe, fGe, fEq, fMod, fNeg, fPow, arity, dCall, dCallY, dCallK, dCallX, dSoSetL, dIsi2, fIsi2, noEx, dCB, fGcd, fMax2, fMin2, fInt, dIsi, fIsi, isTy, refOk, dIsN, dNotN, dIsB, dNotB, isNon, isBl, sz_lt, sz_le, sRaise, sTry, collapse_const, endX, dXf, dXis, dBM, dBM0, tTr, fTr, aStar, sRetN, fAbs, sFor, iAny, iRng1, iEn, *])
namespace K02
/-- a tuple of values that are drawn one after another -/
theorem comp_box {f : FD} {rest S : Sto} {n : Int} {a : DenA} {o1 o2 o3 o4 o5 o6 : Option D} (hf : ∀ S, IsBox S rest → ∃ d S', f [.ref 1] S = .ok d S' ∧ IsBox S' rest ∧ ∀ T, Vd 7 T 1 d) (ha : a [some (.ref 1), o1, o2, o3, o4, o5, o6] S = .ok [.int n] S) (h0 : 0 ≤ n ∧ n ≤ 12) (hb : IsBox S rest) :
    ∃ ys S', dLc false (iRng1 a) [4] (gN 4) tYesD (dCall (arity 1 f) [] (aCons (dVar 0) aNil)) [some (.ref 1), o1, o2, o3, o4, o5, o6] S = .ok (.lst ys) S' ∧ IsBox S' rest ∧ (ys.length : Int) = n ∧ ∀ y ∈ ys, ∀ T, Vd 7 T 1 y := by
  obtain ⟨k, rfl⟩ : ∃ k : Nat, n = (k : Int) := ⟨n.toNat, by omega⟩
  have src : iRng1 a [some (.ref 1), o1, o2, o3, o4, o5, o6] S = .ok (rngD 0 k, fun _ => True) S := by
    show (a _ S).bind fRng1 = _
    rw [ha, R.bind_ok]
    exact fRng1_eq rfl (by omega)
  obtain ⟨ys, S', e, b, l, p⟩ := lcGo_ex (t := gN 4) (elt := dCall (arity 1 f) [] (aCons (dVar 0) aNil)) (env := wipeE [some (.ref 1), o1, o2, o3, o4, o5, o6] [4]) (g := fun _ => True) (fun S => IsBox S rest) (fun _ y => ∀ T, Vd 7 T 1 y) (fun _ _ => trivial) (rngD 0 k) [] S hb (by rw [rngD_len]; simp; omega) fun x hx T hT => by
    obtain ⟨d, T', e1, b1, v1⟩ := hf T hT
    refine ⟨[some (.ref 1), o1, o2, o3, some x, o5, o6], d, T', rfl, ?_, b1, v1⟩
    clear hb ha src hT b1 v1 hf h0
    walk_at "z"
  refine ⟨ys, S', ?_, b, by rw [l, rngD_len], fun y hy => ?_⟩
  · unfold dLc
    rw [src, R.bind_ok, e, R.bind_ok, List.nil_append]
    rfl
  · obtain ⟨i, hi, ey⟩ := List.getElem_of_mem hy
    have hi2 : i < (rngD 0 k).length := by rw [← l]; exact hi
    exact p i _ y (List.getElem?_eq_getElem hi2) (by rw [List.getElem?_eq_getElem hi, ey])
theorem vd_tup {S : Sto} {n : Nat} {ys : List D} (hl : ys.length ≤ 7) (h : ∀ y ∈ ys, Vd 7 S n y) : Vd 7 S (n + 1) (.tup ys) := ⟨hl, h⟩
theorem tup_eq {ys : List D} {S : Sto} (hl : ys.length ≤ 12) : fTuple [.lst ys] S = .ok (.tup ys) S := by
  simp [fTuple, seqOf, lstOf, mkT, sz_le (show ys.length ≤ 1000 by omega)]
/-- moment, edge, span, cap, readings -/
theorem good_eq {S rest : Sto} {f n : Int} (hS : IsBox S rest) (hf : f = 0 ∨ f = 1 ∨ f = 2 ∨ f = 3 ∨ f = 5) (hn : 1 ≤ n ∧ n ≤ 6) : ∃ d S', F_law_good [.ref 1, .int f, .int n] S = .ok d S' ∧ IsBox S' rest ∧ ∀ T, Vd 7 T 3 d := by
  rcases hf with rfl | rfl | rfl | rfl | rfl
  · obtain ⟨d, S', e, b, v⟩ := good_moment_eq hS
    refine ⟨d, S', ?_, b, fun T => (v T).mono (by decide)⟩
    clear hS b v hn
    unfold F_law_good
    walk_at "z"
  · obtain ⟨t, S2, e2, b2, t1, t2⟩ := draw_eq (n := 199) hS (by decide) (by decide)
    obtain ⟨u, S3, e3, b3, u1, u2⟩ := draw_eq (n := 2) b2 (by decide) (by decide)
    refine ⟨mo (t - 99) u, S3, ?_, b3, fun T => (vd_ed ⟨by omega, by omega⟩ ⟨u1, by omega⟩).mono (by decide)⟩
    clear hS b2 b3 t1 t2 u1 u2 hn
    unfold F_law_good
    walk_at "z"
  · obtain ⟨d, S', e, b, v⟩ := good_span_eq hS
    refine ⟨d, S', ?_, b, fun T => (v T).mono (by decide)⟩
    clear hS b v hn
    unfold F_law_good
    walk_at "z"
  · obtain ⟨d, S', e, b, v⟩ := good_cap_eq hS
    refine ⟨d, S', ?_, b, fun T => (v T).mono (by decide)⟩
    clear hS b v hn
    unfold F_law_good
    walk_at "z"
  · obtain ⟨ys, S', e, b, l, v⟩ := comp_box (f := F_law_good_moment) (a := aCons (dVar 2) aNil) (n := n) (o1 := some (.int 5)) (o2 := some (.int n)) (o3 := none) (o4 := none) (o5 := none) (o6 := none) (fun S h => good_moment_eq h) rfl ⟨by omega, by omega⟩ hS
    have tq : Fit ys.length := of_eq_true (sz_le (by omega))
    refine ⟨.tup ys, S', ?_, b, fun T => (vd_tup (by omega) fun y hy => v y hy T).mono (by decide)⟩
    simp only [gN] at e
    clear hS b v hn l
    unfold F_law_good
    walk_at "z"
end K02
end

section
set_option Elab.async false
set_option linter.all false
set_option maxRecDepth 100000
set_option maxHeartbeats 1000000
open Z
local macro_rules | `(tactic| walk_at "z") => `(tactic| simp [fnF_eq, sSeq, sSet, sRet, sIf, sDrop, sNil, sAsg, sPar, sPut, F.then_nx, F.then_rt, F.then_bk, F.then_ct, F.then_ex, F.then_bad, F.then_ite, R.lift_ok, R.lift_ex, R.lift_bad, R.lift_ite, R.bind_ok, R.bind_ex, R.bind_bad, R.bind_ite, F.fin_nx, F.fin_rt, F.fin_ex, F.fin_bad, F.fin_ite, dVar, dC, bin, un, dAnd, dOr, dNot, tB', tAnd', tOr', tNot', dIf, asB_bl, aNil, aCons, dTup, mkT, dLst, mkL, fIx, seqOf, lstOf, L2.atI, L2.ixN, fAdd, fPlus, dSl, oSome, oNone, asI, fSl, fInT, fStr, fIntT, fFmt, dFmt, dJs, fPart, fStarts, fFind, fIsdig, fIsasc, fMulS, fSub, fMul, fLt, fGt, fLe, fGe, fEq, fDiv, fMod, fNeg, fPow, arity, dCall, dCallY, dCallK, dCallX, dSoSetL, dIsi2, fIsi2, noEx, dCB, fGcd, fLen, fMax2, fMin2, fInt, gN, gT, gAll, dIsi, fIsi, isTy, refOk, dIsN, dNotN, dIsB, dNotB, isNon, isBl, sz_lt, sz_le, sRaise, sTry, collapse_const, endX, dXf, dXis, dBM, dBM0, fPop, fApp, fRevM, fIns, fPopAt, tTr, fTr, aStar, dSoSet, sRetN, fTuple, fAbs, tyD, *])
local macro_rules | `(tactic| walk_at "y") => `(tactic| simp [fnF_eq, sSeq, sSet, sRet, sIf, sDrop, sNil, sAsg, sPar, sPut, F.then_nx, F.then_rt, F.then_bk, F.then_ct, F.then_ex, F.then_bad, F.then_ite, R.lift_ok, R.lift_ex, R.lift_bad, R.lift_ite, R.bind_ok, R.bind_ex, R.bind_bad, R.bind_ite, F.fin_nx, F.fin_rt, F.fin_ex, F.fin_bad, F.fin_ite, dVar, dC, bin, un, dAnd, dOr, dNot, tB', tAnd', tOr', tNot', dIf, asB_bl, aNil, aCons, dTup, mkT, dLst, mkL, fIx, seqOf, lstOf, L2.atI, L2.ixN, fAdd, fPlus, dSl, oSome, oNone, asI, fSl, fInT, fStr, fIntT, fFmt, dFmt, dJs, fPart, fStarts, fFind, fIsdig, fIsasc, fMulS, fSub, fMul, fLt, fGt, fLe, fGe, fEq, fDiv, fMod, fNeg, fPow, arity, dCall, dCallY, dCallK, dCallX, dSoSetL, dIsi2, fIsi2, noEx, dCB, fGcd, fLen, fMax2, fMin2, fInt, sFor, iRng1, fRng1, iSeq, asSeq, iAny, asAny, dIsi, fIsi, isTy, refOk, dIsN, dNotN, dIsB, dNotB, isNon, isBl, sz_lt, sz_le, sRaise, sTry, collapse_const, endX, dXf, dXis, dBM, dBM0, fPop, fApp, fRevM, fIns, fPopAt, tTr, fTr, aStar, dSoSet, sRetN, fTuple, fAbs, tyD, *])
local macro_rules | `(tactic| walk_at "v") => `(tactic| simp [fnF_eq, sSeq, sSet, sRet, sIf, sDrop, sNil, sAsg, sPar, sPut, F.then_nx, F.then_rt, F.then_bk, F.then_ct, F.then_ex, F.then_bad, F.then_ite, R.lift_ok, R.lift_ex, R.lift_bad, R.lift_ite, R.bind_ok, R.bind_ex, R.bind_bad, R.bind_ite, F.fin_nx, F.fin_rt, F.fin_ex, F.fin_bad, F.fin_ite, dVar, dC, bin, un, dAnd, dOr, dNot, tB', tAnd', tOr', tNot', dIf, asB_bl, aNil, aCons, dTup, mkT, dLst, mkL, seqOf, lstOf, fAdd, fPlus, dSl, oSome, oNone, asI, fInT, fStr, fIntT, fFmt, dFmt, dJs, fPart, fStarts, fFind, fIsdig, fIsasc, fMulS, fSub, fLt, fGt, fLe, fGe, fEq, fMod, fNeg, fPow, arity, dCall, dCallY, dCallK, dCallX, dSoSetL, dIsi2, fIsi2, noEx, dCB, fGcd, fMax2, fMin2, fInt, gN, gT, gAll, dIsi, fIsi, isTy, refOk, dIsN, dNotN, dIsB, dNotB, isNon, isBl, sz_lt, sz_le, sRaise, sTry, collapse_const, endX, dXf, dXis, dBM, dBM0, tTr, fTr, aStar, sRetN, fAbs, *])
local macro_rules | `(tactic| walk_at "u") => `(tactic| simp [fnF_eq, sSeq, sSet, sRet, sIf, sDrop, sNil, sAsg, sPar, sPut, F.then_nx, F.then_rt, F.then_bk, F.then_ct, F.then_ex, F.then_bad, F.then_ite, R.lift_ok, R.lift_ex, R.lift_bad, R.lift_ite, R.bind_ok, R.bind_ex, R.bind_bad, R.bind_ite, F.fin_nx, F.fin_rt, F.fin_ex, F.fin_bad, F.fin_ite, dVar, dC, bin, un, dAnd, dOr, dNot, tB', tAnd', tOr', tNot', dIf, asB_bl, aNil, aCons, dTup, mkT, dLst, mkL, seqOf, lstOf, fAdd, fPlus, dSl, oSome, oNone, asI, fInT, fStr, fIntT, fFmt, dFmt, dJs, fPart, fStarts, fFind, fIsdig, fIsasc, fMulS, fSub, fLt, fGt, fLe, fGe, fEq, fMod, fNeg, fPow, arity, dCall, dCallY, dCallK, dCallX, dSoSetL, dIsi2, fIsi2, noEx, dCB, fGcd, fMax2, fMin2, fInt, dIsi, fIsi, isTy, refOk, dIsN, dNotN, dIsB, dNotB, isNon, isBl, sz_lt, sz_le, sRaise, sTry, collapse_const, endX, dXf, dXis, dBM, dBM0, tTr, fTr, aStar, sRetN, fAbs, sFor, iAny, iRng1, iEn, *])
local macro_rules | `(tactic| walk_at "t") => `(tactic| simp [fnF_eq, sSeq, sSet, sRet, sIf, sDrop, sNil, sAsg, sPar, sPut, F.then_nx, F.then_rt, F.then_bk, F.then_ct, F.then_ex, F.then_bad, F.then_ite, R.lift_ok, R.lift_ex, R.lift_bad, R.lift_ite, R.bind_ok, R.bind_ex, R.bind_bad, R.bind_ite, F.fin_nx, F.fin_rt, F.fin_ex, F.fin_bad, F.fin_ite, dVar, dC, bin, un, dAnd, dOr, dNot, tB', tAnd', tOr', tNot', dIf, asB_bl, aNil, aCons, dTup, mkT, dLst, mkL, seqOf, lstOf, fAdd, dSl, oSome, oNone, asI, fInT, fStr, fIntT, fFmt, dFmt, dJs, fPart, fStarts, fFind, fIsdig, fIsasc, fMulS, fSub, fLt, fGt, fLe, fGe, fEq, fMod, fNeg, fPow, arity, dCall, dCallY, dCallK, dCallX, dSoSetL, dIsi2, fIsi2, noEx, dCB, fGcd, fMax2, fMin2, fInt, dIsi, fIsi, isTy, refOk, dIsN, dNotN, dIsB, dNotB, isNon, isBl, sz_lt, sz_le, sRaise, sTry, collapse_const, endX, dXf, dXis, dBM, dBM0, tTr, fTr, aStar, sRetN, fAbs, sFor, iAny, iRng1, iEn, *])
namespace K02
theorem bx_get {g : List Int} {x s c : Int} {rest : Sto} {ds : List D} : (Bx g x s c (rest ++ [.lst ds]))[2 + rest.length]? = some (.lst ds) := by
  have e : (Bx g x s c (rest ++ [.lst ds]))[2 + rest.length]? = (rest ++ [Cell.lst ds])[rest.length]? := by rw [Nat.add_comm]; rfl
  rw [e, List.getElem?_append_right (Nat.le_refl _)]
  simp
theorem bx_set {g : List Int} {x s c : Int} {rest : Sto} {ds es : List D} : (Bx g x s c (rest ++ [.lst ds])).set (2 + rest.length) (.lst es) = Bx g x s c (rest ++ [.lst es]) := by
  have e : (Bx g x s c (rest ++ [.lst ds])).set (2 + rest.length) (.lst es) = Bx g x s c ((rest ++ [Cell.lst ds]).set rest.length (.lst es)) := by rw [Nat.add_comm]; rfl
  rw [e, List.set_append_right _ _ (Nat.le_refl _)]
  simp
noncomputable def tabB : SDen := sDrop (dBM .list fApp (dVar 5) (aCons (dCB fTuple (aCons (dLc false (iRng1 (aCons (bin fPlus (dVar 2) (dC (.int 1))) (aNil))) [4] (gN 4) (tYesD) (dCall (arity 1 F_law_good_cap) [] (aCons (dVar 0) (aNil)))) (aNil))) (aNil)))
theorem tab_turn {S rest : Sto} {ds : List D} {n : Int} {o : Option D} (hS : IsBox S (rest ++ [.lst ds])) (hn : 1 ≤ n ∧ n ≤ 6) (hd : ds.length ≤ 900) : ∃ ys S', tabB [some (.ref 1), some (.int 4), some (.int n), none, none, some (.ref (2 + rest.length)), o] S = .nx [some (.ref 1), some (.int 4), some (.int n), none, none, some (.ref (2 + rest.length)), o] S' ∧
    IsBox S' (rest ++ [.lst (ds ++ [.tup ys])]) ∧ ∀ T, Vd 7 T 2 (.tup ys) := by
  have ha : (aCons (bin fPlus (dVar 2) (dC (.int 1))) aNil) [some (.ref 1), some (.int 4), some (.int n), none, none, some (.ref (2 + rest.length)), o] S = .ok [.int (n + 1)] S := by
    simp [aCons, aNil, bin, dVar, dC, fPlus, R.bind_ok]
  obtain ⟨ys, S1, e, b, l, v⟩ := comp_box (f := F_law_good_cap) (fun S h => good_cap_eq h) ha ⟨by omega, by omega⟩ hS
  have h0 : S[2 + rest.length]? = some (.lst ds) := by
    obtain ⟨_, _, _, _, rfl⟩ := id hS
    exact bx_get
  have hz : Fit ys.length := of_eq_true (sz_le (by omega))
  have hf : FitS ds.length := of_eq_true (sz_lt (by omega))
  obtain ⟨g, x, s, c, eS⟩ := b
  have h1 : S1[2 + rest.length]? = some (.lst ds) := by rw [eS]; exact bx_get
  have h2 : S1.set (2 + rest.length) (.lst (ds ++ [.tup ys])) = Bx g x s c (rest ++ [.lst (ds ++ [.tup ys])]) := by rw [eS]; exact bx_set
  refine ⟨ys, Bx g x s c (rest ++ [.lst (ds ++ [.tup ys])]), ?_, ⟨g, x, s, c, rfl⟩, fun T => vd_tup (by omega) fun y hy => v y hy T⟩
  simp only [gN] at e
  clear hS ha hn hd l v eS
  unfold tabB
  walk_at "z"
theorem tab_go {rest : Sto} {n : Int} (hn : 1 ≤ n ∧ n ≤ 6) {g : Sto → Prop} (hg : ∀ S, g S) : ∀ (ms : List Int) (S : Sto) (ds : List D) (o : Option D), IsBox S (rest ++ [.lst ds]) → ds.length + ms.length ≤ 12 → (∀ d ∈ ds, ∀ T, Vd 7 T 2 d) →
    ∃ o' es S', forGo g (gN 6) tabB (ms.map D.int) [some (.ref 1), some (.int 4), some (.int n), none, none, some (.ref (2 + rest.length)), o] S = .nx [some (.ref 1), some (.int 4), some (.int n), none, none, some (.ref (2 + rest.length)), o'] S' ∧
      IsBox S' (rest ++ [.lst es]) ∧ es.length = ds.length + ms.length ∧ ∀ d ∈ es, ∀ T, Vd 7 T 2 d
  | [], S, ds, o, hS, hl, hv => ⟨o, ds, S, forGo_nil (hg S), hS, rfl, hv⟩
  | m :: ms, S, ds, o, hS, hl, hv => by
    simp only [List.length_cons] at hl
    obtain ⟨ys, S1, e, b, v⟩ := tab_turn (o := some (.int m)) hS hn (by omega)
    obtain ⟨o', es, S2, e2, b2, l2, v2⟩ := tab_go hn hg ms S1 (ds ++ [.tup ys]) (some (.int m)) b (by simp; omega) (fun d hd T => by
      rcases List.mem_append.mp hd with hd | hd
      · exact hv d hd T
      · cases List.mem_singleton.mp hd; exact v T)
    refine ⟨o', es, S2, ?_, b2, by rw [l2]; simp; omega, v2⟩
    rw [List.map_cons, forGo, if_pos (hg S)]
    have t : (gN 6).run (.int m) [some (.ref 1), some (.int 4), some (.int n), none, none, some (.ref (2 + rest.length)), o] = some [some (.ref 1), some (.int 4), some (.int n), none, none, some (.ref (2 + rest.length)), some (.int m)] := rfl
    rw [t]
    simp only [e]
    exact e2
end K02
end

section
set_option Elab.async false
set_option linter.all false
set_option maxRecDepth 100000
set_option maxHeartbeats 1000000
open Z
local macro_rules | `(tactic| walk_at "z") => `(tactic| simp [fnF_eq, sSeq, sSet, sRet, sIf, sDrop, sNil, sAsg, sPar, sPut, F.then_nx, F.then_rt, F.then_bk, F.then_ct, F.then_ex, F.then_bad, F.then_ite, R.lift_ok, R.lift_ex, R.lift_bad, R.lift_ite, R.bind_ok, R.bind_ex, R.bind_bad, R.bind_ite, F.fin_nx, F.fin_rt, F.fin_ex, F.fin_bad, F.fin_ite, dVar, dC, bin, un, dAnd, dOr, dNot, tB', tAnd', tOr', tNot', dIf, asB_bl, aNil, aCons, dTup, mkT, dLst, mkL, fIx, seqOf, lstOf, L2.atI, L2.ixN, fAdd, fPlus, dSl, oSome, oNone, asI, fSl, fInT, fStr, fIntT, fFmt, dFmt, dJs, fPart, fStarts, fFind, fIsdig, fIsasc, fMulS, fSub, fMul, fLt, fGt, fLe, fGe, fEq, fDiv, fMod, fNeg, fPow, arity, dCall, dCallY, dCallK, dCallX, dSoSetL, dIsi2, fIsi2, noEx, dCB, fGcd, fLen, fMax2, fMin2, fInt, gN, gT, gAll, dIsi, fIsi, isTy, refOk, dIsN, dNotN, dIsB, dNotB, isNon, isBl, sz_lt, sz_le, sRaise, sTry, collapse_const, endX, dXf, dXis, dBM, dBM0, fPop, fApp, fRevM, fIns, fPopAt, tTr, fTr, aStar, dSoSet, sRetN, fTuple, fAbs, tyD, *])
local macro_rules | `(tactic| walk_at "y") => `(tactic| simp [fnF_eq, sSeq, sSet, sRet, sIf, sDrop, sNil, sAsg, sPar, sPut, F.then_nx, F.then_rt, F.then_bk, F.then_ct, F.then_ex, F.then_bad, F.then_ite, R.lift_ok, R.lift_ex, R.lift_bad, R.lift_ite, R.bind_ok, R.bind_ex, R.bind_bad, R.bind_ite, F.fin_nx, F.fin_rt, F.fin_ex, F.fin_bad, F.fin_ite, dVar, dC, bin, un, dAnd, dOr, dNot, tB', tAnd', tOr', tNot', dIf, asB_bl, aNil, aCons, dTup, mkT, dLst, mkL, fIx, seqOf, lstOf, L2.atI, L2.ixN, fAdd, fPlus, dSl, oSome, oNone, asI, fSl, fInT, fStr, fIntT, fFmt, dFmt, dJs, fPart, fStarts, fFind, fIsdig, fIsasc, fMulS, fSub, fMul, fLt, fGt, fLe, fGe, fEq, fDiv, fMod, fNeg, fPow, arity, dCall, dCallY, dCallK, dCallX, dSoSetL, dIsi2, fIsi2, noEx, dCB, fGcd, fLen, fMax2, fMin2, fInt, sFor, iRng1, fRng1, iSeq, asSeq, iAny, asAny, dIsi, fIsi, isTy, refOk, dIsN, dNotN, dIsB, dNotB, isNon, isBl, sz_lt, sz_le, sRaise, sTry, collapse_const, endX, dXf, dXis, dBM, dBM0, fPop, fApp, fRevM, fIns, fPopAt, tTr, fTr, aStar, dSoSet, sRetN, fTuple, fAbs, tyD, *])
local macro_rules | `(tactic| walk_at "v") => `(tactic| simp [fnF_eq, sSeq, sSet, sRet, sIf, sDrop, sNil, sAsg, sPar, sPut, F.then_nx, F.then_rt, F.then_bk, F.then_ct, F.then_ex, F.then_bad, F.then_ite, R.lift_ok, R.lift_ex, R.lift_bad, R.lift_ite, R.bind_ok, R.bind_ex, R.bind_bad, R.bind_ite, F.fin_nx, F.fin_rt, F.fin_ex, F.fin_bad, F.fin_ite, dVar, dC, bin, un, dAnd, dOr, dNot, tB', tAnd', tOr', tNot', dIf, asB_bl, aNil, aCons, dTup, mkT, dLst, mkL, seqOf, lstOf, fAdd, fPlus, dSl, oSome, oNone, asI, fInT, fStr, fIntT, fFmt, dFmt, dJs, fPart, fStarts, fFind, fIsdig, fIsasc, fMulS, fSub, fLt, fGt, fLe, fGe, fEq, fMod, fNeg, fPow, arity, dCall, dCallY, dCallK, dCallX, dSoSetL, dIsi2, fIsi2, noEx, dCB, fGcd, fMax2, fMin2, fInt, gN, gT, gAll, dIsi, fIsi, isTy, refOk, dIsN, dNotN, dIsB, dNotB, isNon, isBl, sz_lt, sz_le, sRaise, sTry, collapse_const, endX, dXf, dXis, dBM, dBM0, tTr, fTr, aStar, sRetN, fAbs, *])
local macro_rules | `(tactic| walk_at "u") => `(tactic| simp [fnF_eq, sSeq, sSet, sRet, sIf, sDrop, sNil, sAsg, sPar, sPut, F.then_nx, F.then_rt, F.then_bk, F.then_ct, F.then_ex, F.then_bad, F.then_ite, R.lift_ok, R.lift_ex, R.lift_bad, R.lift_ite, R.bind_ok, R.bind_ex, R.bind_bad, R.bind_ite, F.fin_nx, F.fin_rt, F.fin_ex, F.fin_bad, F.fin_ite, dVar, dC, bin, un, dAnd, dOr, dNot, tB', tAnd', tOr', tNot', dIf, asB_bl, aNil, aCons, dTup, mkT, dLst, mkL, seqOf, lstOf, fAdd, fPlus, dSl, oSome, oNone, asI, fInT, fStr, fIntT, fFmt, dFmt, dJs, fPart, fStarts, fFind, fIsdig, fIsasc, fMulS, fSub, fLt, fGt, fLe, fGe, fEq, fMod, fNeg, fPow, arity, dCall, dCallY, dCallK, dCallX, dSoSetL, dIsi2, fIsi2, noEx, dCB, fGcd, fMax2, fMin2, fInt, dIsi, fIsi, isTy, refOk, dIsN, dNotN, dIsB, dNotB, isNon, isBl, sz_lt, sz_le, sRaise, sTry, collapse_const, endX, dXf, dXis, dBM, dBM0, tTr, fTr, aStar, sRetN, fAbs, sFor, iAny, iRng1, iEn, *])
local macro_rules | `(tactic| walk_at "t") => `(tactic| simp [fnF_eq, sSeq, sSet, sRet, sIf, sDrop, sNil, sAsg, sPar, sPut, F.then_nx, F.then_rt, F.then_bk, F.then_ct, F.then_ex, F.then_bad, F.then_ite, R.lift_ok, R.lift_ex, R.lift_bad, R.lift_ite, R.bind_ok, R.bind_ex, R.bind_bad, R.bind_ite, F.fin_nx, F.fin_rt, F.fin_ex, F.fin_bad, F.fin_ite, dVar, dC, bin, un, dAnd, dOr, dNot, tB', tAnd', tOr', tNot', dIf, asB_bl, aNil, aCons, dTup, mkT, dLst, mkL, seqOf, lstOf, fAdd, dSl, oSome, oNone, asI, fInT, fStr, fIntT, fFmt, dFmt, dJs, fPart, fStarts, fFind, fIsdig, fIsasc, fMulS, fSub, fLt, fGt, fLe, fGe, fEq, fMod, fNeg, fPow, arity, dCall, dCallY, dCallK, dCallX, dSoSetL, dIsi2, fIsi2, noEx, dCB, fGcd, fMax2, fMin2, fInt, dIsi, fIsi, isTy, refOk, dIsN, dNotN, dIsB, dNotB, isNon, isBl, sz_lt, sz_le, sRaise, sTry, collapse_const, endX, dXf, dXis, dBM, dBM0, tTr, fTr, aStar, sRetN, fAbs, sFor, iAny, iRng1, iEn, *])
namespace K02
theorem bx_len {g : List Int} {x s c : Int} {rest : Sto} : (Bx g x s c rest).length = 2 + rest.length := by
  show rest.length + 1 + 1 = _
  omega
theorem bx_app {g : List Int} {x s c : Int} {rest more : Sto} : Bx g x s c rest ++ more = Bx g x s c (rest ++ more) := rfl
theorem good4_eq {S rest : Sto} {n : Int} (hS : IsBox S rest) (hn : 1 ≤ n ∧ n ≤ 6) : ∃ d S' more, F_law_good [.ref 1, .int 4, .int n] S = .ok d S' ∧ IsBox S' (rest ++ more) ∧ ∀ T, Vd 7 T 3 d := by
  obtain ⟨g, x, s, c, rfl⟩ := hS
  obtain ⟨k, hk⟩ : ∃ k : Nat, n + 1 = (k : Int) := ⟨(n + 1).toNat, by omega⟩
  have b0 : IsBox (Bx g x s c (rest ++ [.lst []])) (rest ++ [.lst []]) := ⟨g, x, s, c, rfl⟩
  have e0 : ∀ l : Int, ∀ k : Nat, rngD l k = ((List.range k).map fun (i : Nat) => l + (i : Int)).map D.int := fun l k => by unfold rngD; rw [List.map_map]; rfl
  obtain ⟨o', es, S', e, b, l, v⟩ := tab_go (rest := rest) hn (g := fun _ => True) (fun _ => trivial) ((List.range k).map fun (i : Nat) => 0 + (i : Int)) _ [] none b0 (by simp; omega) (fun d hd => by cases hd)
  have src : iRng1 (aCons (bin fPlus (dVar 2) (dC (.int 1))) aNil) [some (.ref 1), some (.int 4), some (.int n), none, none, some (.ref (2 + rest.length)), none] (Bx g x s c (rest ++ [.lst []])) = .ok (rngD 0 k, fun _ => True) (Bx g x s c (rest ++ [.lst []])) := by
    have ha : (aCons (bin fPlus (dVar 2) (dC (.int 1))) aNil) [some (.ref 1), some (.int 4), some (.int n), none, none, some (.ref (2 + rest.length)), none] (Bx g x s c (rest ++ [.lst []])) = .ok [.int (n + 1)] (Bx g x s c (rest ++ [.lst []])) := by
      simp [aCons, aNil, bin, dVar, dC, fPlus, R.bind_ok]
    show ((aCons (bin fPlus (dVar 2) (dC (.int 1))) aNil) _ _).bind fRng1 = _
    rw [ha, R.bind_ok]
    exact fRng1_eq hk (by omega)
  have loop : sFor (iRng1 (aCons (bin fPlus (dVar 2) (dC (.int 1))) aNil)) (gN 6) tabB [some (.ref 1), some (.int 4), some (.int n), none, none, some (.ref (2 + rest.length)), none] (Bx g x s c (rest ++ [.lst []])) = .nx [some (.ref 1), some (.int 4), some (.int n), none, none, some (.ref (2 + rest.length)), o'] S' := by
    unfold sFor
    rw [src, R.lift_ok, e0]
    exact e
  have hl : es.length ≤ 7 := by rw [l]; simp; omega
  have hz : Fit es.length := of_eq_true (sz_le (by omega))
  have h1 : S'[2 + rest.length]? = some (.lst es) := by
    obtain ⟨_, _, _, _, rfl⟩ := id b
    exact bx_get
  refine ⟨.tup es, S', [.lst es], ?_, b, fun T => vd_tup hl fun y hy => v y hy T⟩
  have ml : ∀ env, dLst true aNil env (Bx g x s c rest) = .ok (.ref (2 + rest.length)) (Bx g x s c (rest ++ [.lst []])) := fun env => by
    have hz0 : Fit 0 := of_eq_true (sz_le (by decide))
    simp [dLst, aNil, mkL, R.bind_ok, hz0, bx_len, bx_app]
  clear src e0 e b l v b0 hk hl
  unfold tabB at loop
  simp only [gN] at loop
  unfold F_law_good
  simp only [gN]
  have c0 : ∀ (S : Sto) (k : Int), k ≠ 4 → tB' (bin (fEq false) (dVar 1) (dC (.int k))) [some (.ref 1), some (.int 4), some (.int n), none, none, none, none] S = .ok false S := fun S k h => by
    have h4 : ¬ (4 : Int) = k := fun z => h z.symm
    simp [tB', bin, dVar, dC, fEq, R.bind_ok, asB_bl, h4]
  simp only [fnF_eq, List.length_cons, List.length_nil, List.map_cons, List.map_nil, List.replicate, List.cons_append, List.nil_append]
  simp [sSeq, sIf, c0, sNil, F.then_nx, R.lift_ok, sSet, ml, loop, sRet, dCB, aCons, aNil, dVar, R.bind_ok, fTuple, seqOf, lstOf, h1, mkT, hz, F.fin_rt]
end K02
end

section
set_option Elab.async false
set_option linter.all false
set_option maxRecDepth 100000
set_option maxHeartbeats 1000000
open Z
local macro_rules | `(tactic| walk_at "z") => `(tactic| simp [fnF_eq, sSeq, sSet, sRet, sIf, sDrop, sNil, sAsg, sPar, sPut, F.then_nx, F.then_rt, F.then_bk, F.then_ct, F.then_ex, F.then_bad, F.then_ite, R.lift_ok, R.lift_ex, R.lift_bad, R.lift_ite, R.bind_ok, R.bind_ex, R.bind_bad, R.bind_ite, F.fin_nx, F.fin_rt, F.fin_ex, F.fin_bad, F.fin_ite, dVar, dC, bin, un, dAnd, dOr, dNot, tB', tAnd', tOr', tNot', dIf, asB_bl, aNil, aCons, dTup, mkT, dLst, mkL, fIx, seqOf, lstOf, L2.atI, L2.ixN, fAdd, fPlus, dSl, oSome, oNone, asI, fSl, fInT, fStr, fIntT, fFmt, dFmt, dJs, fPart, fStarts, fFind, fIsdig, fIsasc, fMulS, fSub, fMul, fLt, fGt, fLe, fGe, fEq, fDiv, fMod, fNeg, fPow, arity, dCall, dCallY, dCallK, dCallX, dSoSetL, dIsi2, fIsi2, noEx, dCB, fGcd, fLen, fMax2, fMin2, fInt, gN, gT, gAll, dIsi, fIsi, isTy, refOk, dIsN, dNotN, dIsB, dNotB, isNon, isBl, sz_lt, sz_le, sRaise, sTry, collapse_const, endX, dXf, dXis, dBM, dBM0, fPop, fApp, fRevM, fIns, fPopAt, tTr, fTr, aStar, dSoSet, sRetN, fTuple, fAbs, tyD, *])
local macro_rules | `(tactic| walk_at "y") => `(tactic| simp [fnF_eq, sSeq, sSet, sRet, sIf, sDrop, sNil, sAsg, sPar, sPut, F.then_nx, F.then_rt, F.then_bk, F.then_ct, F.then_ex, F.then_bad, F.then_ite, R.lift_ok, R.lift_ex, R.lift_bad, R.lift_ite, R.bind_ok, R.bind_ex, R.bind_bad, R.bind_ite, F.fin_nx, F.fin_rt, F.fin_ex, F.fin_bad, F.fin_ite, dVar, dC, bin, un, dAnd, dOr, dNot, tB', tAnd', tOr', tNot', dIf, asB_bl, aNil, aCons, dTup, mkT, dLst, mkL, fIx, seqOf, lstOf, L2.atI, L2.ixN, fAdd, fPlus, dSl, oSome, oNone, asI, fSl, fInT, fStr, fIntT, fFmt, dFmt, dJs, fPart, fStarts, fFind, fIsdig, fIsasc, fMulS, fSub, fMul, fLt, fGt, fLe, fGe, fEq, fDiv, fMod, fNeg, fPow, arity, dCall, dCallY, dCallK, dCallX, dSoSetL, dIsi2, fIsi2, noEx, dCB, fGcd, fLen, fMax2, fMin2, fInt, sFor, iRng1, fRng1, iSeq, asSeq, iAny, asAny, dIsi, fIsi, isTy, refOk, dIsN, dNotN, dIsB, dNotB, isNon, isBl, sz_lt, sz_le, sRaise, sTry, collapse_const, endX, dXf, dXis, dBM, dBM0, fPop, fApp, fRevM, fIns, fPopAt, tTr, fTr, aStar, dSoSet, sRetN, fTuple, fAbs, tyD, *])
local macro_rules | `(tactic| walk_at "v") => `(tactic| simp [fnF_eq, sSeq, sSet, sRet, sIf, sDrop, sNil, sAsg, sPar, sPut, F.then_nx, F.then_rt, F.then_bk, F.then_ct, F.then_ex, F.then_bad, F.then_ite, R.lift_ok, R.lift_ex, R.lift_bad, R.lift_ite, R.bind_ok, R.bind_ex, R.bind_bad, R.bind_ite, F.fin_nx, F.fin_rt, F.fin_ex, F.fin_bad, F.fin_ite, dVar, dC, bin, un, dAnd, dOr, dNot, tB', tAnd', tOr', tNot', dIf, asB_bl, aNil, aCons, dTup, mkT, dLst, mkL, seqOf, lstOf, fAdd, fPlus, dSl, oSome, oNone, asI, fInT, fStr, fIntT, fFmt, dFmt, dJs, fPart, fStarts, fFind, fIsdig, fIsasc, fMulS, fSub, fLt, fGt, fLe, fGe, fEq, fMod, fNeg, fPow, arity, dCall, dCallY, dCallK, dCallX, dSoSetL, dIsi2, fIsi2, noEx, dCB, fGcd, fMax2, fMin2, fInt, gN, gT, gAll, dIsi, fIsi, isTy, refOk, dIsN, dNotN, dIsB, dNotB, isNon, isBl, sz_lt, sz_le, sRaise, sTry, collapse_const, endX, dXf, dXis, dBM, dBM0, tTr, fTr, aStar, sRetN, fAbs, *])
local macro_rules | `(tactic| walk_at "u") => `(tactic| simp [fnF_eq, sSeq, sSet, sRet, sIf, sDrop, sNil, sAsg, sPar, sPut, F.then_nx, F.then_rt, F.then_bk, F.then_ct, F.then_ex, F.then_bad, F.then_ite, R.lift_ok, R.lift_ex, R.lift_bad, R.lift_ite, R.bind_ok, R.bind_ex, R.bind_bad, R.bind_ite, F.fin_nx, F.fin_rt, F.fin_ex, F.fin_bad, F.fin_ite, dVar, dC, bin, un, dAnd, dOr, dNot, tB', tAnd', tOr', tNot', dIf, asB_bl, aNil, aCons, dTup, mkT, dLst, mkL, seqOf, lstOf, fAdd, fPlus, dSl, oSome, oNone, asI, fInT, fStr, fIntT, fFmt, dFmt, dJs, fPart, fStarts, fFind, fIsdig, fIsasc, fMulS, fSub, fLt, fGt, fLe, fGe, fEq, fMod, fNeg, fPow, arity, dCall, dCallY, dCallK, dCallX, dSoSetL, dIsi2, fIsi2, noEx, dCB, fGcd, fMax2, fMin2, fInt, dIsi, fIsi, isTy, refOk, dIsN, dNotN, dIsB, dNotB, isNon, isBl, sz_lt, sz_le, sRaise, sTry, collapse_const, endX, dXf, dXis, dBM, dBM0, tTr, fTr, aStar, sRetN, fAbs, sFor, iAny, iRng1, iEn, *])
local macro_rules | `(tactic| walk_at "t") => `(tactic| simp [fnF_eq, sSeq, sSet, sRet, sIf, sDrop, sNil, sAsg, sPar, sPut, F.then_nx, F.then_rt, F.then_bk, F.then_ct, F.then_ex, F.then_bad, F.then_ite, R.lift_ok, R.lift_ex, R.lift_bad, R.lift_ite, R.bind_ok, R.bind_ex, R.bind_bad, R.bind_ite, F.fin_nx, F.fin_rt, F.fin_ex, F.fin_bad, F.fin_ite, dVar, dC, bin, un, dAnd, dOr, dNot, tB', tAnd', tOr', tNot', dIf, asB_bl, aNil, aCons, dTup, mkT, dLst, mkL, seqOf, lstOf, fAdd, dSl, oSome, oNone, asI, fInT, fStr, fIntT, fFmt, dFmt, dJs, fPart, fStarts, fFind, fIsdig, fIsasc, fMulS, fSub, fLt, fGt, fLe, fGe, fEq, fMod, fNeg, fPow, arity, dCall, dCallY, dCallK, dCallX, dSoSetL, dIsi2, fIsi2, noEx, dCB, fGcd, fMax2, fMin2, fInt, dIsi, fIsi, isTy, refOk, dIsN, dNotN, dIsB, dNotB, isNon, isBl, sz_lt, sz_le, sRaise, sTry, collapse_const, endX, dXf, dXis, dBM, dBM0, tTr, fTr, aStar, sRetN, fAbs, sFor, iAny, iRng1, iEn, *])
namespace K02
/-- the values that the law makes, with the greatest length at each depth -/
def Vp (B : Nat) (S : Sto) : List Nat → D → Prop
  | _, .non => True
  | _, .bl _ => True
  | _, .int i => i.natAbs < 2 ^ 59 + B
  | _, .str x => ShortS x
  | l :: ls, .tup xs => xs.length ≤ l ∧ ∀ x ∈ xs, Vp B S ls x
  | l :: ls, .lst xs => xs.length ≤ l ∧ ∀ x ∈ xs, Vp B S ls x
  | l :: ls, .ref m => 2 ≤ m ∧ ∃ xs, S[m]? = some (.lst xs) ∧ xs.length ≤ l ∧ ∀ x ∈ xs, Vp B S ls x
  | _, _ => False
def Le : List Nat → List Nat → Prop
  | [], _ => True
  | _ :: _, [] => False
  | a :: as, b :: bs => a ≤ b ∧ Le as bs
theorem Le.refl : ∀ {l : List Nat}, Le l l
  | [] => trivial
  | _ :: _ => ⟨Nat.le_refl _, Le.refl⟩
theorem Vp.mono {B B' : Nat} {S : Sto} (hB : B ≤ B') : ∀ {ls ms : List Nat} {d : D}, Vp B S ls d → Le ls ms → Vp B' S ms d := by
  intro ls
  induction ls with
  | nil =>
    intro ms d h _
    cases d <;> first | (cases ms <;> exact h) | (cases ms <;> exact Nat.lt_of_lt_of_le h (by omega)) | (cases ms <;> exact h.elim)
  | cons l ls ih =>
    intro ms d h k
    cases ms with
    | nil => exact k.elim
    | cons m ms =>
      obtain ⟨k1, k2⟩ := k
      cases d with
      | non => trivial
      | bl b => trivial
      | int i => exact Nat.lt_of_lt_of_le h (by omega)
      | str x => exact h
      | tup xs => exact ⟨Nat.le_trans h.1 k1, fun x hx => ih (h.2 x hx) k2⟩
      | lst xs => exact ⟨Nat.le_trans h.1 k1, fun x hx => ih (h.2 x hx) k2⟩
      | frz xs => exact h.elim
      | ref m =>
        obtain ⟨h2, xs, e, hl, g⟩ := h
        exact ⟨h2, xs, e, Nat.le_trans hl k1, fun x hx => ih (g x hx) k2⟩
      | err a b c d => exact h.elim
theorem Vp.keep {B : Nat} {S T : Sto} (k : Keeps2 S T) : ∀ {ls : List Nat} {d : D}, Vp B S ls d → Vp B T ls d := by
  intro ls
  induction ls with
  | nil => intro d h; cases d <;> first | exact h | exact h.elim
  | cons l ls ih =>
    intro d h
    cases d with
    | non => trivial
    | bl b => trivial
    | int i => exact h
    | str x => exact h
    | tup xs => exact ⟨h.1, fun x hx => ih (h.2 x hx)⟩
    | lst xs => exact ⟨h.1, fun x hx => ih (h.2 x hx)⟩
    | frz xs => exact h.elim
    | ref m =>
      obtain ⟨h2, xs, e, hl, g⟩ := h
      exact ⟨h2, xs, k m _ h2 e, hl, fun x hx => ih (g x hx)⟩
    | err a b c d => exact h.elim
theorem Vp.vd {B L : Nat} {S : Sto} (hB : B ≤ L) : ∀ {ls : List Nat} {d : D}, Vp B S ls d → (∀ l ∈ ls, l ≤ L) → Vd L S ls.length d := by
  intro ls
  induction ls with
  | nil => intro d h _; cases d <;> first | exact h | exact Nat.lt_of_lt_of_le h (by omega) | exact h.elim
  | cons l ls ih =>
    intro d h k
    have k1 := k l (by simp)
    have k2 : ∀ l ∈ ls, l ≤ L := fun l h => k l (by simp [h])
    cases d with
    | non => trivial
    | bl b => trivial
    | int i => exact Nat.lt_of_lt_of_le h (by omega)
    | str x => exact h
    | tup xs => exact ⟨Nat.le_trans h.1 k1, fun x hx => ih (h.2 x hx) k2⟩
    | lst xs => exact ⟨Nat.le_trans h.1 k1, fun x hx => ih (h.2 x hx) k2⟩
    | frz xs => exact h.elim
    | ref m =>
      obtain ⟨h2, xs, e, hl, g⟩ := h
      exact ⟨h2, xs, e, Nat.le_trans hl k1, fun x hx => ih (g x hx) k2⟩
    | err a b c d => exact h.elim
theorem vp_of {L : Nat} {S : Sto} : ∀ {n : Nat} {d : D}, Vd L S n d → Vp L S (List.replicate n L) d := by
  intro n
  induction n with
  | zero => intro d h; cases d <;> first | exact h | exact h.elim
  | succ n ih =>
    intro d h
    cases d with
    | non => trivial
    | bl b => trivial
    | int i => exact h
    | str x => exact h
    | tup xs => exact ⟨h.1, fun x hx => ih (h.2 x hx)⟩
    | lst xs => exact ⟨h.1, fun x hx => ih (h.2 x hx)⟩
    | frz xs => exact h.elim
    | ref m =>
      obtain ⟨h2, xs, e, hl, g⟩ := h
      exact ⟨h2, xs, e, hl, fun x hx => ih (g x hx)⟩
    | err a b c d => exact h.elim
/-- what a bend adds -/
def bendP (ls : List Nat) : List Nat := ls.map (fun l => max 3 (l + 1)) ++ [3, 2]
theorem le_odd {ls : List Nat} : Le [3, 2] (bendP ls) := by
  cases ls with
  | nil => exact Le.refl
  | cons a ls =>
    refine ⟨?_, ?_⟩
    · show 3 ≤ max 3 (a + 1); omega
    · cases ls with
      | nil => exact ⟨by decide, trivial⟩
      | cons b ls => exact ⟨show 2 ≤ max 3 (b + 1) by omega, trivial⟩
theorem le_bend {ls : List Nat} : Le ls (bendP ls) := by
  induction ls with
  | nil => trivial
  | cons a ls ih => exact ⟨by show a ≤ max 3 (a + 1); omega, ih⟩
theorem odd_vp {B : Nat} {S : Sto} {d : D} (h : d ∈ oddL) : Vp B S [3, 2] d := by
  unfold oddL at h
  simp only [List.mem_cons, List.not_mem_nil, or_false] at h
  rcases h with rfl | rfl | rfl | rfl | rfl | rfl | rfl | rfl | rfl | rfl | rfl | rfl | rfl | rfl | rfl | rfl | rfl | rfl | rfl | rfl | rfl | rfl | rfl | rfl | rfl | rfl | rfl | rfl <;> simp [Vp] <;> first | omega | decide | exact ⟨by decide, by decide⟩ | (refine ⟨?_, ?_⟩ <;> first | omega | decide)
/-- a flat value is so in every store -/
theorem Vp.any {B : Nat} {S T : Sto} {ls : List Nat} {d : D} (h : Vp B S ls d) (hf : isTy .tup d = false ∧ isTy .list d = false) : Vd B T 0 d := by
  obtain ⟨h1, h2⟩ := hf
  cases d <;> first | (cases ls <;> exact h) | exact Bool.noConfusion h1 | exact Bool.noConfusion h2 | (cases ls <;> exact h.elim)
theorem vd_vp {B : Nat} {T : Sto} {ls : List Nat} {d : D} (h : Vd B T 0 d) : Vp B T ls d := (vp_of h).mono (Nat.le_refl _) trivial
end K02
end

section
set_option Elab.async false
set_option linter.all false
set_option maxRecDepth 100000
set_option maxHeartbeats 1000000
open Z
local macro_rules | `(tactic| walk_at "z") => `(tactic| simp [fnF_eq, sSeq, sSet, sRet, sIf, sDrop, sNil, sAsg, sPar, sPut, F.then_nx, F.then_rt, F.then_bk, F.then_ct, F.then_ex, F.then_bad, F.then_ite, R.lift_ok, R.lift_ex, R.lift_bad, R.lift_ite, R.bind_ok, R.bind_ex, R.bind_bad, R.bind_ite, F.fin_nx, F.fin_rt, F.fin_ex, F.fin_bad, F.fin_ite, dVar, dC, bin, un, dAnd, dOr, dNot, tB', tAnd', tOr', tNot', dIf, asB_bl, aNil, aCons, dTup, mkT, dLst, mkL, fIx, seqOf, lstOf, L2.atI, L2.ixN, fAdd, fPlus, dSl, oSome, oNone, asI, fSl, fInT, fStr, fIntT, fFmt, dFmt, dJs, fPart, fStarts, fFind, fIsdig, fIsasc, fMulS, fSub, fMul, fLt, fGt, fLe, fGe, fEq, fDiv, fMod, fNeg, fPow, arity, dCall, dCallY, dCallK, dCallX, dSoSetL, dIsi2, fIsi2, noEx, dCB, fGcd, fLen, fMax2, fMin2, fInt, gN, gT, gAll, dIsi, fIsi, isTy, refOk, dIsN, dNotN, dIsB, dNotB, isNon, isBl, sz_lt, sz_le, sRaise, sTry, collapse_const, endX, dXf, dXis, dBM, dBM0, fPop, fApp, fRevM, fIns, fPopAt, tTr, fTr, aStar, dSoSet, sRetN, fTuple, fAbs, tyD, *])
local macro_rules | `(tactic| walk_at "y") => `(tactic| simp [fnF_eq, sSeq, sSet, sRet, sIf, sDrop, sNil, sAsg, sPar, sPut, F.then_nx, F.then_rt, F.then_bk, F.then_ct, F.then_ex, F.then_bad, F.then_ite, R.lift_ok, R.lift_ex, R.lift_bad, R.lift_ite, R.bind_ok, R.bind_ex, R.bind_bad, R.bind_ite, F.fin_nx, F.fin_rt, F.fin_ex, F.fin_bad, F.fin_ite, dVar, dC, bin, un, dAnd, dOr, dNot, tB', tAnd', tOr', tNot', dIf, asB_bl, aNil, aCons, dTup, mkT, dLst, mkL, fIx, seqOf, lstOf, L2.atI, L2.ixN, fAdd, fPlus, dSl, oSome, oNone, asI, fSl, fInT, fStr, fIntT, fFmt, dFmt, dJs, fPart, fStarts, fFind, fIsdig, fIsasc, fMulS, fSub, fMul, fLt, fGt, fLe, fGe, fEq, fDiv, fMod, fNeg, fPow, arity, dCall, dCallY, dCallK, dCallX, dSoSetL, dIsi2, fIsi2, noEx, dCB, fGcd, fLen, fMax2, fMin2, fInt, sFor, iRng1, fRng1, iSeq, asSeq, iAny, asAny, dIsi, fIsi, isTy, refOk, dIsN, dNotN, dIsB, dNotB, isNon, isBl, sz_lt, sz_le, sRaise, sTry, collapse_const, endX, dXf, dXis, dBM, dBM0, fPop, fApp, fRevM, fIns, fPopAt, tTr, fTr, aStar, dSoSet, sRetN, fTuple, fAbs, tyD, *])
local macro_rules | `(tactic| walk_at "v") => `(tactic| simp [fnF_eq, sSeq, sSet, sRet, sIf, sDrop, sNil, sAsg, sPar, sPut, F.then_nx, F.then_rt, F.then_bk, F.then_ct, F.then_ex, F.then_bad, F.then_ite, R.lift_ok, R.lift_ex, R.lift_bad, R.lift_ite, R.bind_ok, R.bind_ex, R.bind_bad, R.bind_ite, F.fin_nx, F.fin_rt, F.fin_ex, F.fin_bad, F.fin_ite, dVar, dC, bin, un, dAnd, dOr, dNot, tB', tAnd', tOr', tNot', dIf, asB_bl, aNil, aCons, dTup, mkT, dLst, mkL, seqOf, lstOf, fAdd, fPlus, dSl, oSome, oNone, asI, fInT, fStr, fIntT, fFmt, dFmt, dJs, fPart, fStarts, fFind, fIsdig, fIsasc, fMulS, fSub, fLt, fGt, fLe, fGe, fEq, fMod, fNeg, fPow, arity, dCall, dCallY, dCallK, dCallX, dSoSetL, dIsi2, fIsi2, noEx, dCB, fGcd, fMax2, fMin2, fInt, gN, gT, gAll, dIsi, fIsi, isTy, refOk, dIsN, dNotN, dIsB, dNotB, isNon, isBl, sz_lt, sz_le, sRaise, sTry, collapse_const, endX, dXf, dXis, dBM, dBM0, tTr, fTr, aStar, sRetN, fAbs, *])
local macro_rules | `(tactic| walk_at "u") => `(tactic| simp [fnF_eq, sSeq, sSet, sRet, sIf, sDrop, sNil, sAsg, sPar, sPut, F.then_nx, F.then_rt, F.then_bk, F.then_ct, F.then_ex, F.then_bad, F.then_ite, R.lift_ok, R.lift_ex, R.lift_bad, R.lift_ite, R.bind_ok, R.bind_ex, R.bind_bad, R.bind_ite, F.fin_nx, F.fin_rt, F.fin_ex, F.fin_bad, F.fin_ite, dVar, dC, bin, un, dAnd, dOr, dNot, tB', tAnd', tOr', tNot', dIf, asB_bl, aNil, aCons, dTup, mkT, dLst, mkL, seqOf, lstOf, fAdd, fPlus, dSl, oSome, oNone, asI, fInT, fStr, fIntT, fFmt, dFmt, dJs, fPart, fStarts, fFind, fIsdig, fIsasc, fMulS, fSub, fLt, fGt, fLe, fGe, fEq, fMod, fNeg, fPow, arity, dCall, dCallY, dCallK, dCallX, dSoSetL, dIsi2, fIsi2, noEx, dCB, fGcd, fMax2, fMin2, fInt, dIsi, fIsi, isTy, refOk, dIsN, dNotN, dIsB, dNotB, isNon, isBl, sz_lt, sz_le, sRaise, sTry, collapse_const, endX, dXf, dXis, dBM, dBM0, tTr, fTr, aStar, sRetN, fAbs, sFor, iAny, iRng1, iEn, *])
local macro_rules | `(tactic| walk_at "t") => `(tactic| simp [fnF_eq, sSeq, sSet, sRet, sIf, sDrop, sNil, sAsg, sPar, sPut, F.then_nx, F.then_rt, F.then_bk, F.then_ct, F.then_ex, F.then_bad, F.then_ite, R.lift_ok, R.lift_ex, R.lift_bad, R.lift_ite, R.bind_ok, R.bind_ex, R.bind_bad, R.bind_ite, F.fin_nx, F.fin_rt, F.fin_ex, F.fin_bad, F.fin_ite, dVar, dC, bin, un, dAnd, dOr, dNot, tB', tAnd', tOr', tNot', dIf, asB_bl, aNil, aCons, dTup, mkT, dLst, mkL, seqOf, lstOf, fAdd, dSl, oSome, oNone, asI, fInT, fStr, fIntT, fFmt, dFmt, dJs, fPart, fStarts, fFind, fIsdig, fIsasc, fMulS, fSub, fLt, fGt, fLe, fGe, fEq, fMod, fNeg, fPow, arity, dCall, dCallY, dCallK, dCallX, dSoSetL, dIsi2, fIsi2, noEx, dCB, fGcd, fMax2, fMin2, fInt, dIsi, fIsi, isTy, refOk, dIsN, dNotN, dIsB, dNotB, isNon, isBl, sz_lt, sz_le, sRaise, sTry, collapse_const, endX, dXf, dXis, dBM, dBM0, tTr, fTr, aStar, sRetN, fAbs, sFor, iAny, iRng1, iEn, *])
namespace K02
/-- a bend of a value that is no tuple and no list -/
theorem bent_flat {m L : Nat} {S rest : Sto} {d : D} (hS : IsBox S rest) (hd : ∀ T, Vd L T 0 d) (hL : L ≤ 900) : ∃ d' S', F_law_bent (m + 1) [.ref 1, d] S = .ok d' S' ∧ IsBox S' rest ∧ ∀ T, Vp (L + 1) T [3, 2] d' := by
  obtain ⟨c, S1, e1, b1, h1, h2⟩ := draw_eq (n := 5) hS (by decide) (by decide)
  obtain ⟨o, S2, e2, b2, m2⟩ := odd_eq b1
  have vo : ∀ T, Vp (L + 1) T [3, 2] o := fun T => odd_vp m2
  cases d with
  | non =>
    refine ⟨o, S2, ?_, b2, vo⟩
    have w := law_whole_eq (d := .non) (S := S1) rfl
    simp only [isTy] at w
    clear hS hd b1 b2 m2 vo h1 h2
    rw [F_law_bent]
    by_cases c3 : c = 3
    · subst c3
      walk_at "z"
    · walk_at "z"
  | bl v =>
    refine ⟨o, S2, ?_, b2, vo⟩
    have w := law_whole_eq (d := .bl v) (S := S1) rfl
    simp only [isTy] at w
    clear hS hd b1 b2 m2 vo h1 h2
    rw [F_law_bent]
    by_cases c3 : c = 3
    · subst c3
      walk_at "z"
    · walk_at "z"
  | str v =>
    refine ⟨o, S2, ?_, b2, vo⟩
    have w := law_whole_eq (d := .str v) (S := S1) rfl
    simp only [isTy] at w
    clear hS hd b1 b2 m2 vo h1 h2
    rw [F_law_bent]
    by_cases c3 : c = 3
    · subst c3
      walk_at "z"
    · walk_at "z"
  | int i =>
    have w := law_whole_eq (d := .int i) (S := S1) rfl
    simp only [isTy] at w
    by_cases c3 : c = 3
    · subst c3
      obtain ⟨u, S3, e3, b3, u1, u2⟩ := draw_eq (n := 2) b1 (by decide) (by decide)
      have hm : MulOk 2 u := .inl (.inr (by omega))
      have hi : i.natAbs < 2 ^ 59 + L := hd []
      refine ⟨.int (i + 1 - 2 * u), S3, ?_, b3, fun T => (show (i + 1 - 2 * u).natAbs < 2 ^ 59 + (L + 1) by omega)⟩
      clear hS hd b1 b2 b3 m2 vo h1 h2 u1 u2 hi e2
      rw [F_law_bent]
      walk_at "z"
    · refine ⟨o, S2, ?_, b2, vo⟩
      clear hS hd b1 b2 m2 vo h1 h2
      rw [F_law_bent]
      walk_at "z"
  | tup xs => exact (hd []).elim
  | lst xs => exact (hd []).elim
  | frz xs => exact (hd []).elim
  | ref r => exact (hd []).elim
  | err a b c d => exact (hd []).elim
end K02
end

section
set_option Elab.async false
set_option linter.all false
set_option maxRecDepth 100000
set_option maxHeartbeats 1000000
open Z
local macro_rules | `(tactic| walk_at "z") => `(tactic| simp [fnF_eq, sSeq, sSet, sRet, sIf, sDrop, sNil, sAsg, sPar, sPut, F.then_nx, F.then_rt, F.then_bk, F.then_ct, F.then_ex, F.then_bad, F.then_ite, R.lift_ok, R.lift_ex, R.lift_bad, R.lift_ite, R.bind_ok, R.bind_ex, R.bind_bad, R.bind_ite, F.fin_nx, F.fin_rt, F.fin_ex, F.fin_bad, F.fin_ite, dVar, dC, bin, un, dAnd, dOr, dNot, tB', tAnd', tOr', tNot', dIf, asB_bl, aNil, aCons, dTup, mkT, dLst, mkL, fIx, seqOf, lstOf, L2.atI, L2.ixN, fAdd, fPlus, dSl, oSome, oNone, asI, fSl, fInT, fStr, fIntT, fFmt, dFmt, dJs, fPart, fStarts, fFind, fIsdig, fIsasc, fMulS, fSub, fMul, fLt, fGt, fLe, fGe, fEq, fDiv, fMod, fNeg, fPow, arity, dCall, dCallY, dCallK, dCallX, dSoSetL, dIsi2, fIsi2, noEx, dCB, fGcd, fLen, fMax2, fMin2, fInt, gN, gT, gAll, dIsi, fIsi, isTy, refOk, dIsN, dNotN, dIsB, dNotB, isNon, isBl, sz_lt, sz_le, sRaise, sTry, collapse_const, endX, dXf, dXis, dBM, dBM0, fPop, fApp, fRevM, fIns, fPopAt, tTr, fTr, aStar, dSoSet, sRetN, fTuple, fAbs, tyD, *])
local macro_rules | `(tactic| walk_at "y") => `(tactic| simp [fnF_eq, sSeq, sSet, sRet, sIf, sDrop, sNil, sAsg, sPar, sPut, F.then_nx, F.then_rt, F.then_bk, F.then_ct, F.then_ex, F.then_bad, F.then_ite, R.lift_ok, R.lift_ex, R.lift_bad, R.lift_ite, R.bind_ok, R.bind_ex, R.bind_bad, R.bind_ite, F.fin_nx, F.fin_rt, F.fin_ex, F.fin_bad, F.fin_ite, dVar, dC, bin, un, dAnd, dOr, dNot, tB', tAnd', tOr', tNot', dIf, asB_bl, aNil, aCons, dTup, mkT, dLst, mkL, fIx, seqOf, lstOf, L2.atI, L2.ixN, fAdd, fPlus, dSl, oSome, oNone, asI, fSl, fInT, fStr, fIntT, fFmt, dFmt, dJs, fPart, fStarts, fFind, fIsdig, fIsasc, fMulS, fSub, fMul, fLt, fGt, fLe, fGe, fEq, fDiv, fMod, fNeg, fPow, arity, dCall, dCallY, dCallK, dCallX, dSoSetL, dIsi2, fIsi2, noEx, dCB, fGcd, fLen, fMax2, fMin2, fInt, sFor, iRng1, fRng1, iSeq, asSeq, iAny, asAny, dIsi, fIsi, isTy, refOk, dIsN, dNotN, dIsB, dNotB, isNon, isBl, sz_lt, sz_le, sRaise, sTry, collapse_const, endX, dXf, dXis, dBM, dBM0, fPop, fApp, fRevM, fIns, fPopAt, tTr, fTr, aStar, dSoSet, sRetN, fTuple, fAbs, tyD, *])
local macro_rules | `(tactic| walk_at "v") => `(tactic| simp [fnF_eq, sSeq, sSet, sRet, sIf, sDrop, sNil, sAsg, sPar, sPut, F.then_nx, F.then_rt, F.then_bk, F.then_ct, F.then_ex, F.then_bad, F.then_ite, R.lift_ok, R.lift_ex, R.lift_bad, R.lift_ite, R.bind_ok, R.bind_ex, R.bind_bad, R.bind_ite, F.fin_nx, F.fin_rt, F.fin_ex, F.fin_bad, F.fin_ite, dVar, dC, bin, un, dAnd, dOr, dNot, tB', tAnd', tOr', tNot', dIf, asB_bl, aNil, aCons, dTup, mkT, dLst, mkL, seqOf, lstOf, fAdd, fPlus, dSl, oSome, oNone, asI, fInT, fStr, fIntT, fFmt, dFmt, dJs, fPart, fStarts, fFind, fIsdig, fIsasc, fMulS, fSub, fLt, fGt, fLe, fGe, fEq, fMod, fNeg, fPow, arity, dCall, dCallY, dCallK, dCallX, dSoSetL, dIsi2, fIsi2, noEx, dCB, fGcd, fMax2, fMin2, fInt, gN, gT, gAll, dIsi, fIsi, isTy, refOk, dIsN, dNotN, dIsB, dNotB, isNon, isBl, sz_lt, sz_le, sRaise, sTry, collapse_const, endX, dXf, dXis, dBM, dBM0, tTr, fTr, aStar, sRetN, fAbs, *])
local macro_rules | `(tactic| walk_at "u") => `(tactic| simp [fnF_eq, sSeq, sSet, sRet, sIf, sDrop, sNil, sAsg, sPar, sPut, F.then_nx, F.then_rt, F.then_bk, F.then_ct, F.then_ex, F.then_bad, F.then_ite, R.lift_ok, R.lift_ex, R.lift_bad, R.lift_ite, R.bind_ok, R.bind_ex, R.bind_bad, R.bind_ite, F.fin_nx, F.fin_rt, F.fin_ex, F.fin_bad, F.fin_ite, dVar, dC, bin, un, dAnd, dOr, dNot, tB', tAnd', tOr', tNot', dIf, asB_bl, aNil, aCons, dTup, mkT, dLst, mkL, seqOf, lstOf, fAdd, fPlus, dSl, oSome, oNone, asI, fInT, fStr, fIntT, fFmt, dFmt, dJs, fPart, fStarts, fFind, fIsdig, fIsasc, fMulS, fSub, fLt, fGt, fLe, fGe, fEq, fMod, fNeg, fPow, arity, dCall, dCallY, dCallK, dCallX, dSoSetL, dIsi2, fIsi2, noEx, dCB, fGcd, fMax2, fMin2, fInt, dIsi, fIsi, isTy, refOk, dIsN, dNotN, dIsB, dNotB, isNon, isBl, sz_lt, sz_le, sRaise, sTry, collapse_const, endX, dXf, dXis, dBM, dBM0, tTr, fTr, aStar, sRetN, fAbs, sFor, iAny, iRng1, iEn, *])
local macro_rules | `(tactic| walk_at "t") => `(tactic| simp [fnF_eq, sSeq, sSet, sRet, sIf, sDrop, sNil, sAsg, sPar, sPut, F.then_nx, F.then_rt, F.then_bk, F.then_ct, F.then_ex, F.then_bad, F.then_ite, R.lift_ok, R.lift_ex, R.lift_bad, R.lift_ite, R.bind_ok, R.bind_ex, R.bind_bad, R.bind_ite, F.fin_nx, F.fin_rt, F.fin_ex, F.fin_bad, F.fin_ite, dVar, dC, bin, un, dAnd, dOr, dNot, tB', tAnd', tOr', tNot', dIf, asB_bl, aNil, aCons, dTup, mkT, dLst, mkL, seqOf, lstOf, fAdd, dSl, oSome, oNone, asI, fInT, fStr, fIntT, fFmt, dFmt, dJs, fPart, fStarts, fFind, fIsdig, fIsasc, fMulS, fSub, fLt, fGt, fLe, fGe, fEq, fMod, fNeg, fPow, arity, dCall, dCallY, dCallK, dCallX, dSoSetL, dIsi2, fIsi2, noEx, dCB, fGcd, fMax2, fMin2, fInt, dIsi, fIsi, isTy, refOk, dIsN, dNotN, dIsB, dNotB, isNon, isBl, sz_lt, sz_le, sRaise, sTry, collapse_const, endX, dXf, dXis, dBM, dBM0, tTr, fTr, aStar, sRetN, fAbs, sFor, iAny, iRng1, iEn, *])
local macro_rules | `(tactic| walk_at "w") => `(tactic| simp [fnF_eq, sSeq, sSet, sRet, sIf, sDrop, sNil, sAsg, sPar, sPut, F.then_nx, F.then_rt, F.then_bk, F.then_ct, F.then_ex, F.then_bad, F.then_ite, R.lift_ok, R.lift_ex, R.lift_bad, R.lift_ite, R.bind_ok, R.bind_ex, R.bind_bad, R.bind_ite, F.fin_nx, F.fin_rt, F.fin_ex, F.fin_bad, F.fin_ite, dVar, dC, bin, un, dAnd, dOr, dNot, tB', tAnd', tOr', tNot', dIf, asB_bl, aNil, aCons, dTup, mkT, dLst, mkL, seqOf, lstOf, fAdd, dSl, oSome, oNone, asI, fInT, fStr, fIntT, fFmt, dFmt, dJs, fPart, fStarts, fFind, fIsdig, fIsasc, fMulS, fSub, fLt, fGt, fLe, fGe, fEq, fMod, fNeg, fPow, arity, dCall, dCallY, dCallK, dCallX, dSoSetL, dIsi2, noEx, dCB, fGcd, fMax2, fMin2, fInt, dIsi, dIsN, dNotN, dIsB, dNotB, isNon, isBl, sz_lt, sz_le, sRaise, sTry, collapse_const, endX, dXf, dXis, dBM, dBM0, tTr, fTr, aStar, sRetN, fAbs, sFor, iAny, iRng1, iEn, *])
namespace K02
theorem at_of {xs : List D} {p : Int} {j : Nat} (h : L2.ixN xs.length p = some j) (hj : j < xs.length) : L2.atI xs p = some xs[j] := by
  unfold L2.atI
  rw [h]
  exact List.getElem?_eq_getElem hj
/-- a bend within a tuple, a list -/
theorem bent_in {n : Nat} {d d2 : D} {xs : List D} {S S1 S2 S4 : Sto} {c p : Int} {r j : Nat} (lt : (isTy .tup d || isTy .list d) = true) (hc : 0 < c)
    (e1 : F_law_draw [.ref 1, .int 4] S = .ok (.int c) S1) (e2 : F_law_draw [.ref 1, .int xs.length] S1 = .ok (.int p) S2)
    (q0 : seqOf S d = some xs) (q1 : seqOf S1 d = some xs) (q2 : seqOf S2 d = some xs) (r0 : refOk S d = true) (r5 : refOk (S4.set r (.lst (xs.set j d2))) d = true)
    (hx : 0 < xs.length) (hz : Fit xs.length) (hr : r = S2.length) (hj : j < xs.length) (hi : L2.ixN xs.length p = some j)
    (e3 : F_law_bent n [.ref 1, xs[j]] (S2 ++ [.lst xs]) = .ok d2 S4) (e4 : S4[r]? = some (.lst xs)) (e5 : (S4.set r (.lst (xs.set j d2)))[r]? = some (.lst (xs.set j d2))) :
    F_law_bent (n + 1) [.ref 1, d] S = .ok (if isTy .list d = true then .ref r else .tup (xs.set j d2)) (S4.set r (.lst (xs.set j d2))) := by
  have i0 : fIsi2 .tup .list d S = .ok (.bl true) S := by
    unfold fIsi2; rw [if_pos r0, lt]
  have i5 : fIsi .list d (S4.set r (.lst (xs.set j d2))) = .ok (.bl (isTy .list d)) (S4.set r (.lst (xs.set j d2))) := by
    unfold fIsi; rw [if_pos r5]
  have l0 : fLen [d] S = .ok (.int xs.length) S := by simp only [fLen, q0]
  have l1 : fLen [d] S1 = .ok (.int xs.length) S1 := by simp only [fLen, q1]
  have m2 : fList true [d] S2 = .ok (.ref r) (S2 ++ [.lst xs]) := by simp only [fList, q2, mkL, if_pos hz, if_true, hr]
  have g2 : (S2 ++ [Cell.lst xs])[r]? = some (.lst xs) := by rw [hr, List.getElem?_append_right (Nat.le_refl _)]; simp
  have x2 : fIx (.ref r) (.int p) (S2 ++ [.lst xs]) = .ok xs[j] (S2 ++ [.lst xs]) := by
    simp only [fIx, seqOf, g2, at_of hi hj]
  have t5 : fTuple [.ref r] (S4.set r (.lst (xs.set j d2))) = .ok (.tup (xs.set j d2)) (S4.set r (.lst (xs.set j d2))) := by
    have hz2 : Fit (xs.set j d2).length := by rw [List.length_set]; exact hz
    simp only [fTuple, lstOf, e5, mkT, if_pos hz2]
  have gx := hx
  generalize xs[j] = y at *
  clear q0 q1 q2 r0 r5 hr hj hx e5 g2 lt
  rw [F_law_bent]
  simp only [fnF_eq, List.length_cons, List.length_nil, List.map_cons, List.map_nil, List.replicate, List.cons_append, List.nil_append]
  have hb : asB (.bl true) S = .ok true S := by simp [asB_bl]
  simp [sSeq, sSet, sIf, tAnd', tB', dAnd, dIsi2, dVar, R.bind_ok, i0, asB_bl, dCB, aCons, aNil, bin, dC, l0, fGt, gx, F.then_nx, R.lift_ok, dCall, arity, e1, hc, l1, e2, m2, sPut, x2, e3, e4, hi, dIsi, i5, sRet, t5]
  cases isTy .list d <;> simp [sSeq, sSet, sIf, tAnd', tB', dAnd, dIsi2, dVar, R.bind_ok, i0, asB_bl, dCB, aCons, aNil, bin, dC, l0, fGt, gx, F.then_nx, R.lift_ok, dCall, arity, e1, hc, l1, e2, m2, sPut, x2, e3, e4, hi, dIsi, i5, sRet, t5, sNil, F.fin_rt, F.then_rt]
end K02
end

section
set_option Elab.async false
set_option linter.all false
set_option maxRecDepth 100000
set_option maxHeartbeats 1000000
open Z
local macro_rules | `(tactic| walk_at "z") => `(tactic| simp [fnF_eq, sSeq, sSet, sRet, sIf, sDrop, sNil, sAsg, sPar, sPut, F.then_nx, F.then_rt, F.then_bk, F.then_ct, F.then_ex, F.then_bad, F.then_ite, R.lift_ok, R.lift_ex, R.lift_bad, R.lift_ite, R.bind_ok, R.bind_ex, R.bind_bad, R.bind_ite, F.fin_nx, F.fin_rt, F.fin_ex, F.fin_bad, F.fin_ite, dVar, dC, bin, un, dAnd, dOr, dNot, tB', tAnd', tOr', tNot', dIf, asB_bl, aNil, aCons, dTup, mkT, dLst, mkL, fIx, seqOf, lstOf, L2.atI, L2.ixN, fAdd, fPlus, dSl, oSome, oNone, asI, fSl, fInT, fStr, fIntT, fFmt, dFmt, dJs, fPart, fStarts, fFind, fIsdig, fIsasc, fMulS, fSub, fMul, fLt, fGt, fLe, fGe, fEq, fDiv, fMod, fNeg, fPow, arity, dCall, dCallY, dCallK, dCallX, dSoSetL, dIsi2, fIsi2, noEx, dCB, fGcd, fLen, fMax2, fMin2, fInt, gN, gT, gAll, dIsi, fIsi, isTy, refOk, dIsN, dNotN, dIsB, dNotB, isNon, isBl, sz_lt, sz_le, sRaise, sTry, collapse_const, endX, dXf, dXis, dBM, dBM0, fPop, fApp, fRevM, fIns, fPopAt, tTr, fTr, aStar, dSoSet, sRetN, fTuple, fAbs, tyD, *])
local macro_rules | `(tactic| walk_at "y") => `(tactic| simp [fnF_eq, sSeq, sSet, sRet, sIf, sDrop, sNil, sAsg, sPar, sPut, F.then_nx, F.then_rt, F.then_bk, F.then_ct, F.then_ex, F.then_bad, F.then_ite, R.lift_ok, R.lift_ex, R.lift_bad, R.lift_ite, R.bind_ok, R.bind_ex, R.bind_bad, R.bind_ite, F.fin_nx, F.fin_rt, F.fin_ex, F.fin_bad, F.fin_ite, dVar, dC, bin, un, dAnd, dOr, dNot, tB', tAnd', tOr', tNot', dIf, asB_bl, aNil, aCons, dTup, mkT, dLst, mkL, fIx, seqOf, lstOf, L2.atI, L2.ixN, fAdd, fPlus, dSl, oSome, oNone, asI, fSl, fInT, fStr, fIntT, fFmt, dFmt, dJs, fPart, fStarts, fFind, fIsdig, fIsasc, fMulS, fSub, fMul, fLt, fGt, fLe, fGe, fEq, fDiv, fMod, fNeg, fPow, arity, dCall, dCallY, dCallK, dCallX, dSoSetL, dIsi2, fIsi2, noEx, dCB, fGcd, fLen, fMax2, fMin2, fInt, sFor, iRng1, fRng1, iSeq, asSeq, iAny, asAny, dIsi, fIsi, isTy, refOk, dIsN, dNotN, dIsB, dNotB, isNon, isBl, sz_lt, sz_le, sRaise, sTry, collapse_const, endX, dXf, dXis, dBM, dBM0, fPop, fApp, fRevM, fIns, fPopAt, tTr, fTr, aStar, dSoSet, sRetN, fTuple, fAbs, tyD, *])
local macro_rules | `(tactic| walk_at "v") => `(tactic| simp [fnF_eq, sSeq, sSet, sRet, sIf, sDrop, sNil, sAsg, sPar, sPut, F.then_nx, F.then_rt, F.then_bk, F.then_ct, F.then_ex, F.then_bad, F.then_ite, R.lift_ok, R.lift_ex, R.lift_bad, R.lift_ite, R.bind_ok, R.bind_ex, R.bind_bad, R.bind_ite, F.fin_nx, F.fin_rt, F.fin_ex, F.fin_bad, F.fin_ite, dVar, dC, bin, un, dAnd, dOr, dNot, tB', tAnd', tOr', tNot', dIf, asB_bl, aNil, aCons, dTup, mkT, dLst, mkL, seqOf, lstOf, fAdd, fPlus, dSl, oSome, oNone, asI, fInT, fStr, fIntT, fFmt, dFmt, dJs, fPart, fStarts, fFind, fIsdig, fIsasc, fMulS, fSub, fLt, fGt, fLe, fGe, fEq, fMod, fNeg, fPow, arity, dCall, dCallY, dCallK, dCallX, dSoSetL, dIsi2, fIsi2, noEx, dCB, fGcd, fMax2, fMin2, fInt, gN, gT, gAll, dIsi, fIsi, isTy, refOk, dIsN, dNotN, dIsB, dNotB, isNon, isBl, sz_lt, sz_le, sRaise, sTry, collapse_const, endX, dXf, dXis, dBM, dBM0, tTr, fTr, aStar, sRetN, fAbs, *])
local macro_rules | `(tactic| walk_at "u") => `(tactic| simp [fnF_eq, sSeq, sSet, sRet, sIf, sDrop, sNil, sAsg, sPar, sPut, F.then_nx, F.then_rt, F.then_bk, F.then_ct, F.then_ex, F.then_bad, F.then_ite, R.lift_ok, R.lift_ex, R.lift_bad, R.lift_ite, R.bind_ok, R.bind_ex, R.bind_bad, R.bind_ite, F.fin_nx, F.fin_rt, F.fin_ex, F.fin_bad, F.fin_ite, dVar, dC, bin, un, dAnd, dOr, dNot, tB', tAnd', tOr', tNot', dIf, asB_bl, aNil, aCons, dTup, mkT, dLst, mkL, seqOf, lstOf, fAdd, fPlus, dSl, oSome, oNone, asI, fInT, fStr, fIntT, fFmt, dFmt, dJs, fPart, fStarts, fFind, fIsdig, fIsasc, fMulS, fSub, fLt, fGt, fLe, fGe, fEq, fMod, fNeg, fPow, arity, dCall, dCallY, dCallK, dCallX, dSoSetL, dIsi2, fIsi2, noEx, dCB, fGcd, fMax2, fMin2, fInt, dIsi, fIsi, isTy, refOk, dIsN, dNotN, dIsB, dNotB, isNon, isBl, sz_lt, sz_le, sRaise, sTry, collapse_const, endX, dXf, dXis, dBM, dBM0, tTr, fTr, aStar, sRetN, fAbs, sFor, iAny, iRng1, iEn, *])
local macro_rules | `(tactic| walk_at "t") => `(tactic| simp [fnF_eq, sSeq, sSet, sRet, sIf, sDrop, sNil, sAsg, sPar, sPut, F.then_nx, F.then_rt, F.then_bk, F.then_ct, F.then_ex, F.then_bad, F.then_ite, R.lift_ok, R.lift_ex, R.lift_bad, R.lift_ite, R.bind_ok, R.bind_ex, R.bind_bad, R.bind_ite, F.fin_nx, F.fin_rt, F.fin_ex, F.fin_bad, F.fin_ite, dVar, dC, bin, un, dAnd, dOr, dNot, tB', tAnd', tOr', tNot', dIf, asB_bl, aNil, aCons, dTup, mkT, dLst, mkL, seqOf, lstOf, fAdd, dSl, oSome, oNone, asI, fInT, fStr, fIntT, fFmt, dFmt, dJs, fPart, fStarts, fFind, fIsdig, fIsasc, fMulS, fSub, fLt, fGt, fLe, fGe, fEq, fMod, fNeg, fPow, arity, dCall, dCallY, dCallK, dCallX, dSoSetL, dIsi2, fIsi2, noEx, dCB, fGcd, fMax2, fMin2, fInt, dIsi, fIsi, isTy, refOk, dIsN, dNotN, dIsB, dNotB, isNon, isBl, sz_lt, sz_le, sRaise, sTry, collapse_const, endX, dXf, dXis, dBM, dBM0, tTr, fTr, aStar, sRetN, fAbs, sFor, iAny, iRng1, iEn, *])
local macro_rules | `(tactic| walk_at "w") => `(tactic| simp [fnF_eq, sSeq, sSet, sRet, sIf, sDrop, sNil, sAsg, sPar, sPut, F.then_nx, F.then_rt, F.then_bk, F.then_ct, F.then_ex, F.then_bad, F.then_ite, R.lift_ok, R.lift_ex, R.lift_bad, R.lift_ite, R.bind_ok, R.bind_ex, R.bind_bad, R.bind_ite, F.fin_nx, F.fin_rt, F.fin_ex, F.fin_bad, F.fin_ite, dVar, dC, bin, un, dAnd, dOr, dNot, tB', tAnd', tOr', tNot', dIf, asB_bl, aNil, aCons, dTup, mkT, dLst, mkL, seqOf, lstOf, fAdd, dSl, oSome, oNone, asI, fInT, fStr, fIntT, fFmt, dFmt, dJs, fPart, fStarts, fFind, fIsdig, fIsasc, fMulS, fSub, fLt, fGt, fLe, fGe, fEq, fMod, fNeg, fPow, arity, dCall, dCallY, dCallK, dCallX, dSoSetL, dIsi2, noEx, dCB, fGcd, fMax2, fMin2, fInt, dIsi, dIsN, dNotN, dIsB, dNotB, isNon, isBl, sz_lt, sz_le, sRaise, sTry, collapse_const, endX, dXf, dXis, dBM, dBM0, tTr, fTr, aStar, sRetN, fAbs, sFor, iAny, iRng1, iEn, *])
namespace K02
theorem cut_lo {xs : List D} {p : Int} (h0 : 0 ≤ p) (h1 : p < xs.length) : cutD xs none (some p) = xs.take p.toNat := by
  obtain ⟨k, rfl⟩ := Int.eq_ofNat_of_zero_le h0
  unfold cutD
  rw [HT.sIx_nat, HT.sIx_none, List.drop_zero, Int.toNat_natCast]
  have : min k xs.length - 0 = k := by omega
  rw [this]
theorem cut_hi {xs : List D} {p : Int} (h0 : 0 ≤ p) (h1 : p < xs.length) : cutD xs (some (p + 1)) none = xs.drop (p.toNat + 1) := by
  obtain ⟨k, rfl⟩ := Int.eq_ofNat_of_zero_le h0
  unfold cutD
  have e : ((k : Int) + 1) = ((k + 1 : Nat) : Int) := by omega
  rw [e, HT.sIx_nat, HT.sIx_none, Int.toNat_natCast]
  have : min (k + 1) xs.length = k + 1 := by omega
  rw [this]
  exact List.take_of_length_le (by rw [List.length_drop]; omega)
/-- xs without the item at p -/
def without (xs : List D) (p : Int) : List D := xs.take p.toNat ++ xs.drop (p.toNat + 1)
theorem without_len {xs : List D} {p : Int} : (without xs p).length ≤ xs.length := by
  unfold without
  rw [List.length_append, List.length_take, List.length_drop]
  omega
theorem without_mem {xs : List D} {p : Int} {x : D} (h : x ∈ without xs p) : x ∈ xs := by
  rcases List.mem_append.mp h with h | h
  · exact List.mem_of_mem_take h
  · exact List.mem_of_mem_drop h
theorem sl_tup {xs : List D} {lo hi : Option Int} {S : Sto} : fSl false (.tup xs) lo hi S = .ok (.tup (cutD xs lo hi)) S := by
  show (if HT.sIx xs.length 0 lo = 0 ∧ HT.sIx xs.length xs.length hi = xs.length then R.ok (D.tup xs) S else R.ok (D.tup (cutD xs lo hi)) S) = _
  by_cases h : HT.sIx xs.length 0 lo = 0 ∧ HT.sIx xs.length xs.length hi = xs.length
  · rw [if_pos h]
    have : cutD xs lo hi = xs := by
      unfold cutD
      rw [h.1, h.2, List.drop_zero, Nat.sub_zero, List.take_length]
    rw [this]
  · rw [if_neg h]
theorem sl_lst {d : D} {xs : List D} {lo hi : Option Int} {S : Sto} (h : lstOf S d = some xs) (ht : isTy .list d = true) (hz : xs.length ≤ 1000) : fSl false d lo hi S = .ok (.lst (cutD xs lo hi)) S := by
  have hl : (cutD xs lo hi).length ≤ 1000 := by
    unfold cutD
    rw [List.length_take, List.length_drop]; omega
  have hz2 : Fit (cutD xs lo hi).length := of_eq_true (sz_le (by omega))
  cases d <;> first | exact Bool.noConfusion ht | simp only [fSl, h, mkL, if_pos hz2, Bool.false_eq_true, if_false]
/-- what stands behind the first choice -/
noncomputable def bentC : SDen := (sSeq (sSet 5 (dCall (arity 2 F_law_draw) [] (aCons (dVar 0) (aCons (dC (.int 5)) (aNil))))) (sSeq (sIf (tAnd' (tB' (bin (fEq false) (dVar 5) (dC (.int 0)))) (tB' (dIsi .tup (dVar 1)))) (sRet (dCB (fList false) (aCons (dVar 1) (aNil)))) (sNil)) (sSeq (sIf (tAnd' (tB' (bin (fEq false) (dVar 5) (dC (.int 1)))) (tB' (dVar 2))) (sSeq (sSet 3 (dCall (arity 2 F_law_draw) [] (aCons (dVar 0) (aCons (dCB fLen (aCons (dVar 1) (aNil))) (aNil))))) (sRet (bin fPlus (dSl false (dVar 1) (oNone) (oSome (dVar 3))) (dSl false (dVar 1) (oSome (bin fPlus (dVar 3) (dC (.int 1)))) (oNone))))) (sNil)) (sSeq (sIf (tAnd' (tB' (bin (fEq false) (dVar 5) (dC (.int 2)))) (tB' (dIsi .tup (dVar 1)))) (sRet (bin fPlus (dVar 1) (dTup (aCons (dCall (arity 1 F_law_odd) [] (aCons (dVar 0) (aNil))) (aNil))))) (sNil)) (sSeq (sIf (tAnd' (tB' (bin (fEq false) (dVar 5) (dC (.int 3)))) (tB' (dCall (arity 1 F_law_whole) [] (aCons (dVar 1) (aNil))))) (sRet (bin fSub (bin fPlus (dVar 1) (dC (.int 1))) (bin fMul (dC (.int 2)) (dCall (arity 2 F_law_draw) [] (aCons (dVar 0) (aCons (dC (.int 2)) (aNil))))))) (sNil)) (sRet (dCall (arity 1 F_law_odd) [] (aCons (dVar 0) (aNil))))))))) 
theorem bendP_cons {l : Nat} {ls : List Nat} : bendP (l :: ls) = max 3 (l + 1) :: bendP ls := rfl
theorem fit_of {n : Nat} (h : n ≤ 100000) : Fit n := Nat.le_trans h (show 100000 ≤ 2 ^ 24 by omega)
theorem plus_l {xs ys : List D} {S : Sto} (h : xs.length + ys.length ≤ 2000) : fPlus (.lst xs) (.lst ys) S = .ok (.lst (xs ++ ys)) S := by
  have hf : Fit (xs ++ ys).length := fit_of (by rw [List.length_append]; omega)
  simp only [fPlus, ownOf, mkL, if_pos hf, Bool.false_eq_true, if_false]
theorem plus_t {xs ys : List D} {S : Sto} (h : xs.length + ys.length ≤ 2000) : fPlus (.tup xs) (.tup ys) S = .ok (.tup (xs ++ ys)) S := by
  have hf : Fit (xs.length + ys.length) := fit_of (by omega)
  simp only [fPlus, if_pos hf]
theorem tail_eq {d : D} {xs : List D} {S rest : Sto} (hS : IsBox S rest) (q : ∀ T, Keeps2 S T → seqOf T d = some xs ∧ refOk T d = true) (lt : d = .tup xs ∨ (isTy .list d = true ∧ isTy .tup d = false ∧ isTy .int d = false ∧ ∀ T, seqOf T d = lstOf T d)) (hz : xs.length ≤ 900) :
    ∃ d' S', bentC [some (.ref 1), some d, some (.bl (decide (0 < xs.length))), none, none, none] S = .rt d' S' ∧ IsBox S' rest ∧ ∀ {B l : Nat} {ls : List Nat} {T : Sto}, (∀ x ∈ xs, Vp B T ls x) → xs.length ≤ l → Vp (B + 1) T (bendP (l :: ls)) d' := by
  obtain ⟨c, S1, e1, b1, h1, h2⟩ := draw_eq (n := 5) hS (by decide) (by decide)
  have k1 := box_keep hS b1
  obtain ⟨q1, r1⟩ := q S1 k1
  obtain ⟨o, S2, e2, b2, m2⟩ := odd_eq b1
  have vo : ∀ {B l : Nat} {ls : List Nat} {T : Sto}, Vp (B + 1) T (bendP (l :: ls)) o := (odd_vp m2).mono (Nat.le_refl _) le_odd
  have w : F_law_whole [d] S1 = .ok (.bl false) S1 := by
    have w := law_whole_eq (d := d) (S := S1) r1
    rw [w]
    rcases lt with rfl | ⟨_, _, h, _⟩
    · rfl
    · cases d <;> first | rfl | cases h
  have it : fIsi .tup d S1 = .ok (.bl (isTy .tup d)) S1 := by unfold fIsi; rw [if_pos r1]
  have both : ∀ {B l : Nat} {ls : List Nat} {T : Sto} {ys : List D}, (∀ y ∈ ys, Vp B T ls y) → ys.length ≤ l + 1 → Vp (B + 1) T (bendP (l :: ls)) (.tup ys) ∧ Vp (B + 1) T (bendP (l :: ls)) (.lst ys) := fun h hl =>
    ⟨⟨Nat.le_trans hl (Nat.le_max_right _ _), fun y hy => (h y hy).mono (Nat.le_succ _) le_bend⟩, ⟨Nat.le_trans hl (Nat.le_max_right _ _), fun y hy => (h y hy).mono (Nat.le_succ _) le_bend⟩⟩
  by_cases c0 : c = 0
  · subst c0
    rcases lt with rfl | ⟨t, u, _, _⟩
    · have hf : Fit xs.length := of_eq_true (sz_le (by omega))
      have ml : fList false [.tup xs] S1 = .ok (.lst xs) S1 := by simp only [fList, seqOf, mkL, if_pos hf, Bool.false_eq_true, if_false]
      refine ⟨.lst xs, S1, ?_, b1, fun h hl => (both h (by omega)).2⟩
      clear q e2 w both vo b1 b2 hS k1 m2 h1 h2 q1
      unfold bentC
      walk_at "v"
    · refine ⟨o, S2, ?_, b2, fun _ _ => vo⟩
      have it : fIsi .tup d S1 = .ok (.bl false) S1 := by unfold fIsi; rw [if_pos r1, u]
      clear q both vo b1 b2 hS k1 m2 h1 h2 q1 r1
      unfold bentC
      walk_at "w"
  by_cases c1 : c = 1
  · subst c1
    by_cases hx : 0 < xs.length
    · obtain ⟨p, S3, e3, b3, p1, p2⟩ := draw_eq (n := xs.length) b1 (by omega) (by omega)
      obtain ⟨q3, r3⟩ := q S3 (k1.trans (box_keep b1 b3))
      have l1 : fLen [d] S1 = .ok (.int xs.length) S1 := by simp only [fLen, q1]
      have p3 : fPlus (.int p) (.int 1) S3 = .ok (.int (p + 1)) S3 := rfl
      have it : fIsi .tup d S1 = .ok (.bl (isTy .tup d)) S1 := by unfold fIsi; rw [if_pos r1]
      have w1 := cut_lo p1 p2
      have w2 := cut_hi p1 p2
      have hlen : (xs.take p.toNat).length + (xs.drop (p.toNat + 1)).length ≤ 2000 := by rw [List.length_take, List.length_drop]; omega
      rcases lt with rfl | ⟨t, u, _, ql⟩
      · have s1 : fSl false (.tup xs) none (some p) S3 = .ok (.tup (xs.take p.toNat)) S3 := by rw [sl_tup, w1]
        have s2 : fSl false (.tup xs) (some (p + 1)) none S3 = .ok (.tup (xs.drop (p.toNat + 1))) S3 := by rw [sl_tup, w2]
        have pl := plus_t (S := S3) hlen
        refine ⟨.tup (without xs p), S3, ?_, b3, fun h hl => (both (fun y hy => h y (without_mem hy)) (Nat.le_trans without_len (by omega))).1⟩
        unfold without
        clear q both vo b1 b2 b3 hS k1 m2 h1 h2 q1 q3 e2 w c0 w1 w2 hlen p1 p2 hz r1 r3
        unfold bentC
        walk_at "w"
      · have q4 : lstOf S3 d = some xs := by rw [← ql]; exact q3
        have s1 : fSl false d none (some p) S3 = .ok (.lst (xs.take p.toNat)) S3 := by rw [sl_lst q4 t (by omega), w1]
        have s2 : fSl false d (some (p + 1)) none S3 = .ok (.lst (xs.drop (p.toNat + 1))) S3 := by rw [sl_lst q4 t (by omega), w2]
        have pl := plus_l (S := S3) hlen
        refine ⟨.lst (without xs p), S3, ?_, b3, fun h hl => (both (fun y hy => h y (without_mem hy)) (Nat.le_trans without_len (by omega))).2⟩
        unfold without
        clear q ql both vo b1 b2 b3 hS k1 m2 h1 h2 q1 q3 q4 e2 w c0 w1 w2 hlen p1 p2 hz r1 r3
        unfold bentC
        walk_at "w"
    · refine ⟨o, S2, ?_, b2, fun _ _ => vo⟩
      have hd : decide (0 < xs.length) = false := by simp only [hx, decide_false]
      have it : fIsi .tup d S1 = .ok (.bl (isTy .tup d)) S1 := by unfold fIsi; rw [if_pos r1]
      rw [hd]
      generalize isTy .tup d = bt at *
      clear lt q both vo b1 b2 hS k1 m2 h1 h2 q1 hx hd r1
      unfold bentC
      walk_at "w"
  by_cases c2 : c = 2
  · subst c2
    rcases lt with rfl | ⟨t, u, _, _⟩
    · have hf : Fit [o].length := fit_of (Nat.le_of_ble_eq_true rfl)
      have mt : mkT [o] S2 = .ok (.tup [o]) S2 := by simp only [mkT, if_pos hf]
      have pl := plus_t (xs := xs) (ys := [o]) (S := S2) (by simp; omega)
      have it2 : fIsi .tup (.tup xs) S1 = .ok (.bl true) S1 := rfl
      refine ⟨.tup (xs ++ [o]), S2, ?_, b2, fun {B l ls T} h hl => ⟨?_, fun y hy => ?_⟩⟩
      · clear q both vo b1 b2 hS k1 m2 h1 h2 q1 c0 c1 hz w r1 it
        unfold bentC
        walk_at "w"
      · rw [List.length_append]
        exact Nat.le_trans (Nat.succ_le_succ hl) (Nat.le_max_right _ _)
      · rcases List.mem_append.mp hy with hy | hy
        · exact (h y hy).mono (Nat.le_succ _) le_bend
        · cases List.mem_singleton.mp hy
          exact (odd_vp m2).mono (Nat.le_refl _) le_odd
    · refine ⟨o, S2, ?_, b2, fun _ _ => vo⟩
      have it : fIsi .tup d S1 = .ok (.bl false) S1 := by unfold fIsi; rw [if_pos r1, u]
      clear q both vo b1 b2 hS k1 m2 h1 h2 q1 r1
      unfold bentC
      walk_at "w"
  refine ⟨o, S2, ?_, b2, fun _ _ => vo⟩
  generalize isTy .tup d = bt at *
  clear q both vo b1 b2 hS k1 m2 h1 h2 q1 lt r1
  by_cases c3 : c = 3
  · subst c3
    unfold bentC
    walk_at "w"
  · unfold bentC
    walk_at "w"
end K02
end

section
set_option Elab.async false
set_option linter.all false
set_option maxRecDepth 100000
set_option maxHeartbeats 1000000
open Z
local macro_rules | `(tactic| walk_at "z") => `(tactic| simp [fnF_eq, sSeq, sSet, sRet, sIf, sDrop, sNil, sAsg, sPar, sPut, F.then_nx, F.then_rt, F.then_bk, F.then_ct, F.then_ex, F.then_bad, F.then_ite, R.lift_ok, R.lift_ex, R.lift_bad, R.lift_ite, R.bind_ok, R.bind_ex, R.bind_bad, R.bind_ite, F.fin_nx, F.fin_rt, F.fin_ex, F.fin_bad, F.fin_ite, dVar, dC, bin, un, dAnd, dOr, dNot, tB', tAnd', tOr', tNot', dIf, asB_bl, aNil, aCons, dTup, mkT, dLst, mkL, fIx, seqOf, lstOf, L2.atI, L2.ixN, fAdd, fPlus, dSl, oSome, oNone, asI, fSl, fInT, fStr, fIntT, fFmt, dFmt, dJs, fPart, fStarts, fFind, fIsdig, fIsasc, fMulS, fSub, fMul, fLt, fGt, fLe, fGe, fEq, fDiv, fMod, fNeg, fPow, arity, dCall, dCallY, dCallK, dCallX, dSoSetL, dIsi2, fIsi2, noEx, dCB, fGcd, fLen, fMax2, fMin2, fInt, gN, gT, gAll, dIsi, fIsi, isTy, refOk, dIsN, dNotN, dIsB, dNotB, isNon, isBl, sz_lt, sz_le, sRaise, sTry, collapse_const, endX, dXf, dXis, dBM, dBM0, fPop, fApp, fRevM, fIns, fPopAt, tTr, fTr, aStar, dSoSet, sRetN, fTuple, fAbs, tyD, *])
local macro_rules | `(tactic| walk_at "y") => `(tactic| simp [fnF_eq, sSeq, sSet, sRet, sIf, sDrop, sNil, sAsg, sPar, sPut, F.then_nx, F.then_rt, F.then_bk, F.then_ct, F.then_ex, F.then_bad, F.then_ite, R.lift_ok, R.lift_ex, R.lift_bad, R.lift_ite, R.bind_ok, R.bind_ex, R.bind_bad, R.bind_ite, F.fin_nx, F.fin_rt, F.fin_ex, F.fin_bad, F.fin_ite, dVar, dC, bin, un, dAnd, dOr, dNot, tB', tAnd', tOr', tNot', dIf, asB_bl, aNil, aCons, dTup, mkT, dLst, mkL, fIx, seqOf, lstOf, L2.atI, L2.ixN, fAdd, fPlus, dSl, oSome, oNone, asI, fSl, fInT, fStr, fIntT, fFmt, dFmt, dJs, fPart, fStarts, fFind, fIsdig, fIsasc, fMulS, fSub, fMul, fLt, fGt, fLe, fGe, fEq, fDiv, fMod, fNeg, fPow, arity, dCall, dCallY, dCallK, dCallX, dSoSetL, dIsi2, fIsi2, noEx, dCB, fGcd, fLen, fMax2, fMin2, fInt, sFor, iRng1, fRng1, iSeq, asSeq, iAny, asAny, dIsi, fIsi, isTy, refOk, dIsN, dNotN, dIsB, dNotB, isNon, isBl, sz_lt, sz_le, sRaise, sTry, collapse_const, endX, dXf, dXis, dBM, dBM0, fPop, fApp, fRevM, fIns, fPopAt, tTr, fTr, aStar, dSoSet, sRetN, fTuple, fAbs, tyD, *])
local macro_rules | `(tactic| walk_at "v") => `(tactic| simp [fnF_eq, sSeq, sSet, sRet, sIf, sDrop, sNil, sAsg, sPar, sPut, F.then_nx, F.then_rt, F.then_bk, F.then_ct, F.then_ex, F.then_bad, F.then_ite, R.lift_ok, R.lift_ex, R.lift_bad, R.lift_ite, R.bind_ok, R.bind_ex, R.bind_bad, R.bind_ite, F.fin_nx, F.fin_rt, F.fin_ex, F.fin_bad, F.fin_ite, dVar, dC, bin, un, dAnd, dOr, dNot, tB', tAnd', tOr', tNot', dIf, asB_bl, aNil, aCons, dTup, mkT, dLst, mkL, seqOf, lstOf, fAdd, fPlus, dSl, oSome, oNone, asI, fInT, fStr, fIntT, fFmt, dFmt, dJs, fPart, fStarts, fFind, fIsdig, fIsasc, fMulS, fSub, fLt, fGt, fLe, fGe, fEq, fMod, fNeg, fPow, arity, dCall, dCallY, dCallK, dCallX, dSoSetL, dIsi2, fIsi2, noEx, dCB, fGcd, fMax2, fMin2, fInt, gN, gT, gAll, dIsi, fIsi, isTy, refOk, dIsN, dNotN, dIsB, dNotB, isNon, isBl, sz_lt, sz_le, sRaise, sTry, collapse_const, endX, dXf, dXis, dBM, dBM0, tTr, fTr, aStar, sRetN, fAbs, *])
local macro_rules | `(tactic| walk_at "u") => `(tactic| simp [fnF_eq, sSeq, sSet, sRet, sIf, sDrop, sNil, sAsg, sPar, sPut, F.then_nx, F.then_rt, F.then_bk, F.then_ct, F.then_ex, F.then_bad, F.then_ite, R.lift_ok, R.lift_ex, R.lift_bad, R.lift_ite, R.bind_ok, R.bind_ex, R.bind_bad, R.bind_ite, F.fin_nx, F.fin_rt, F.fin_ex, F.fin_bad, F.fin_ite, dVar, dC, bin, un, dAnd, dOr, dNot, tB', tAnd', tOr', tNot', dIf, asB_bl, aNil, aCons, dTup, mkT, dLst, mkL, seqOf, lstOf, fAdd, fPlus, dSl, oSome, oNone, asI, fInT, fStr, fIntT, fFmt, dFmt, dJs, fPart, fStarts, fFind, fIsdig, fIsasc, fMulS, fSub, fLt, fGt, fLe, fGe, fEq, fMod, fNeg, fPow, arity, dCall, dCallY, dCallK, dCallX, dSoSetL, dIsi2, fIsi2, noEx, dCB, fGcd, fMax2, fMin2, fInt, dIsi, fIsi, isTy, refOk, dIsN, dNotN, dIsB, dNotB, isNon, isBl, sz_lt, sz_le, sRaise, sTry, collapse_const, endX, dXf, dXis, dBM, dBM0, tTr, fTr, aStar, sRetN, fAbs, sFor, iAny, iRng1, iEn, *])
local macro_rules | `(tactic| walk_at "t") => `(tactic| simp [fnF_eq, sSeq, sSet, sRet, sIf, sDrop, sNil, sAsg, sPar, sPut, F.then_nx, F.then_rt, F.then_bk, F.then_ct, F.then_ex, F.then_bad, F.then_ite, R.lift_ok, R.lift_ex, R.lift_bad, R.lift_ite, R.bind_ok, R.bind_ex, R.bind_bad, R.bind_ite, F.fin_nx, F.fin_rt, F.fin_ex, F.fin_bad, F.fin_ite, dVar, dC, bin, un, dAnd, dOr, dNot, tB', tAnd', tOr', tNot', dIf, asB_bl, aNil, aCons, dTup, mkT, dLst, mkL, seqOf, lstOf, fAdd, dSl, oSome, oNone, asI, fInT, fStr, fIntT, fFmt, dFmt, dJs, fPart, fStarts, fFind, fIsdig, fIsasc, fMulS, fSub, fLt, fGt, fLe, fGe, fEq, fMod, fNeg, fPow, arity, dCall, dCallY, dCallK, dCallX, dSoSetL, dIsi2, fIsi2, noEx, dCB, fGcd, fMax2, fMin2, fInt, dIsi, fIsi, isTy, refOk, dIsN, dNotN, dIsB, dNotB, isNon, isBl, sz_lt, sz_le, sRaise, sTry, collapse_const, endX, dXf, dXis, dBM, dBM0, tTr, fTr, aStar, sRetN, fAbs, sFor, iAny, iRng1, iEn, *])
local macro_rules | `(tactic| walk_at "w") => `(tactic| simp [fnF_eq, sSeq, sSet, sRet, sIf, sDrop, sNil, sAsg, sPar, sPut, F.then_nx, F.then_rt, F.then_bk, F.then_ct, F.then_ex, F.then_bad, F.then_ite, R.lift_ok, R.lift_ex, R.lift_bad, R.lift_ite, R.bind_ok, R.bind_ex, R.bind_bad, R.bind_ite, F.fin_nx, F.fin_rt, F.fin_ex, F.fin_bad, F.fin_ite, dVar, dC, bin, un, dAnd, dOr, dNot, tB', tAnd', tOr', tNot', dIf, asB_bl, aNil, aCons, dTup, mkT, dLst, mkL, seqOf, lstOf, fAdd, dSl, oSome, oNone, asI, fInT, fStr, fIntT, fFmt, dFmt, dJs, fPart, fStarts, fFind, fIsdig, fIsasc, fMulS, fSub, fLt, fGt, fLe, fGe, fEq, fMod, fNeg, fPow, arity, dCall, dCallY, dCallK, dCallX, dSoSetL, dIsi2, noEx, dCB, fGcd, fMax2, fMin2, fInt, dIsi, dIsN, dNotN, dIsB, dNotB, isNon, isBl, sz_lt, sz_le, sRaise, sTry, collapse_const, endX, dXf, dXis, dBM, dBM0, tTr, fTr, aStar, sRetN, fAbs, sFor, iAny, iRng1, iEn, *])
namespace K02
theorem bx_get2 {g : List Int} {x s c : Int} {rest more : Sto} {ds : List D} : (Bx g x s c (rest ++ (.lst ds :: more)))[2 + rest.length]? = some (.lst ds) := by
  have e : (Bx g x s c (rest ++ (.lst ds :: more)))[2 + rest.length]? = (rest ++ (Cell.lst ds :: more))[rest.length]? := by rw [Nat.add_comm]; rfl
  rw [e, List.getElem?_append_right (Nat.le_refl _)]
  simp
theorem bent_out0 {n : Nat} {d d' : D} {xs : List D} {S S' : Sto} (lt : (isTy .tup d || isTy .list d) = true) (q0 : seqOf S d = some xs) (r0 : refOk S d = true) (hx : ¬ 0 < xs.length)
    (bt : bentC [some (.ref 1), some d, some (.bl (decide (0 < xs.length))), none, none, none] S = .rt d' S') : F_law_bent (n + 1) [.ref 1, d] S = .ok d' S' := by
  have i0 : fIsi2 .tup .list d S = .ok (.bl true) S := by
    unfold fIsi2; rw [if_pos r0, lt]
  have l0 : fLen [d] S = .ok (.int xs.length) S := by simp only [fLen, q0]
  have gx : ¬ 0 < (xs.length : Int) := by omega
  have hd : decide (0 < xs.length) = false := by simp only [hx, decide_false]
  rw [hd] at bt
  clear q0 r0 lt hx hd
  unfold bentC at bt
  rw [F_law_bent]
  simp only [fnF_eq, List.length_cons, List.length_nil, List.map_cons, List.map_nil, List.replicate, List.cons_append, List.nil_append]
  rw [sSeq, sSet]
  simp only [dAnd, dIsi2, dVar, R.bind_ok, List.getElem?_cons_succ, List.getElem?_cons_zero, i0, asB_bl, dCB, aCons, aNil, bin, dC, l0, fGt, gx, R.lift_ok, if_true, decide_false]
  rw [F.then_nx, sSeq, sIf]
  simp [tAnd', tB', dVar, R.bind_ok, asB_bl, R.lift_ok, sNil, F.then_nx, bt, F.fin_rt]
theorem bent_out1 {n : Nat} {d d' : D} {xs : List D} {S S1 S' : Sto} {c : Int} (lt : (isTy .tup d || isTy .list d) = true) (q0 : seqOf S d = some xs) (r0 : refOk S d = true) (hx : 0 < xs.length) (hc : ¬ 0 < c)
    (e1 : F_law_draw [.ref 1, .int 4] S = .ok (.int c) S1)
    (bt : bentC [some (.ref 1), some d, some (.bl (decide (0 < xs.length))), none, none, none] S1 = .rt d' S') : F_law_bent (n + 1) [.ref 1, d] S = .ok d' S' := by
  have i0 : fIsi2 .tup .list d S = .ok (.bl true) S := by
    unfold fIsi2; rw [if_pos r0, lt]
  have l0 : fLen [d] S = .ok (.int xs.length) S := by simp only [fLen, q0]
  have gx : 0 < (xs.length : Int) := by omega
  have hd : decide (0 < xs.length) = true := by simp only [hx, decide_true]
  rw [hd] at bt
  clear q0 r0 lt hx hd
  unfold bentC at bt
  rw [F_law_bent]
  simp only [fnF_eq, List.length_cons, List.length_nil, List.map_cons, List.map_nil, List.replicate, List.cons_append, List.nil_append]
  rw [sSeq, sSet]
  simp only [dAnd, dIsi2, dVar, R.bind_ok, List.getElem?_cons_succ, List.getElem?_cons_zero, i0, asB_bl, dCB, aCons, aNil, bin, dC, l0, fGt, gx, R.lift_ok, if_true, decide_true]
  rw [F.then_nx, sSeq, sIf]
  simp [tAnd', tB', dVar, R.bind_ok, asB_bl, R.lift_ok, sNil, F.then_nx, bt, F.fin_rt, bin, fGt, dC, dCall, arity, aCons, aNil, e1, hc]
/-- what a bend gives -/
def BentOk (B : Nat) (S0 : Sto) (m : Nat) (ls : List Nat) (x : D) (S rest : Sto) : Prop := ∃ d' S' more, F_law_bent m [.ref 1, x] S = .ok d' S' ∧ IsBox S' (rest ++ more) ∧ ∀ T, Keeps2 S0 T → (∀ k c, 2 + rest.length ≤ k → S'[k]? = some c → T[k]? = some c) → Vp (B + 1) T (bendP ls) d'
theorem ixN_at {n j : Nat} (hj : j < n) : L2.ixN n (j : Int) = some j := by
  unfold L2.ixN
  rw [if_pos (by omega), if_pos (by omega), Int.toNat_natCast]
theorem bent_seq {B m l : Nat} {ls : List Nat} {d : D} {xs : List D} {S0 S rest : Sto} (ih : ∀ (S rest : Sto) (x : D), IsBox S rest → Keeps2 S0 S → Vp B S0 ls x → BentOk B S0 m ls x S rest)
    (hS : IsBox S rest) (k0 : Keeps2 S0 S) (q : ∀ T, Keeps2 S0 T → seqOf T d = some xs ∧ refOk T d = true) (lt : d = .tup xs ∨ (isTy .list d = true ∧ isTy .tup d = false ∧ isTy .int d = false ∧ ∀ T, seqOf T d = lstOf T d))
    (hl : xs.length ≤ l) (h9 : l ≤ 900) (hv : ∀ x ∈ xs, Vp B S0 ls x) : BentOk B S0 (m + 1) (l :: ls) d S rest := by
  have lt2 : (isTy .tup d || isTy .list d) = true := by
    rcases lt with rfl | ⟨h, _⟩
    · rfl
    · rw [h, Bool.or_true]
  obtain ⟨q0, r0⟩ := q S k0
  by_cases hx : 0 < xs.length
  · obtain ⟨c, S1, e1, b1, c1, c2⟩ := draw_eq (n := 4) hS (by decide) (by decide)
    have k1 := k0.trans (box_keep hS b1)
    by_cases hc : 0 < c
    · obtain ⟨p, S2, e2, b2, p1, p2⟩ := draw_eq (n := xs.length) b1 (by omega) (by omega)
      have k2 := k1.trans (box_keep b1 b2)
      obtain ⟨j, rfl⟩ := Int.eq_ofNat_of_zero_le p1
      have hj : j < xs.length := by omega
      obtain ⟨g, z1, z2, z3, rfl⟩ := id b2
      have b3 : IsBox (Bx g z1 z2 z3 rest ++ [.lst xs]) (rest ++ [.lst xs]) := ⟨g, z1, z2, z3, bx_app⟩
      have k3 := k2.trans (box_keeps b2 b3)
      obtain ⟨d2, S4, more, e3, b4, cl⟩ := ih _ _ xs[j] b3 k3 (hv _ (List.getElem_mem hj))
      obtain ⟨g4, y1, y2, y3, rfl⟩ := id b4
      have len : (Bx g z1 z2 z3 rest).length = 2 + rest.length := bx_len
      have at4 : (Bx g4 y1 y2 y3 (rest ++ [Cell.lst xs] ++ more))[2 + rest.length]? = some (.lst xs) := by
        rw [List.append_assoc]; exact bx_get2
      have set4 : (Bx g4 y1 y2 y3 (rest ++ [Cell.lst xs] ++ more)).set (2 + rest.length) (.lst (xs.set j d2)) = Bx g4 y1 y2 y3 (rest ++ (.lst (xs.set j d2) :: more)) := by
        have e : 2 + rest.length = rest.length + 1 + 1 := by omega
        rw [e, List.append_assoc]
        unfold Bx
        simp only [List.set_cons_succ, List.singleton_append]
        rw [List.set_append_right _ _ (Nat.le_refl _), Nat.sub_self]
        rfl
      have b5 : IsBox (Bx g4 y1 y2 y3 (rest ++ (Cell.lst (xs.set j d2) :: more))) (rest ++ (.lst (xs.set j d2) :: more)) := ⟨g4, y1, y2, y3, rfl⟩
      have k5 := k1.trans (box_keeps b1 b5)
      have key := bent_in (n := m) (d := d) (d2 := d2) (xs := xs) (S := S) (S1 := S1) (S2 := Bx g z1 z2 z3 rest) (S4 := Bx g4 y1 y2 y3 (rest ++ [Cell.lst xs] ++ more)) (c := c) (p := (j : Int)) (r := 2 + rest.length) (j := j) lt2 hc e1 e2 q0 (q _ k1).1 (q _ k2).1 r0
        (by rw [set4]; exact (q _ k5).2) hx (of_eq_true (sz_le (by omega))) len.symm hj (ixN_at hj) e3 at4 (by rw [set4]; exact bx_get2)
      rw [set4] at key
      have each : ∀ T, Keeps2 S0 T → (∀ k c, 2 + rest.length ≤ k → (Bx g4 y1 y2 y3 (rest ++ (Cell.lst (xs.set j d2) :: more)))[k]? = some c → T[k]? = some c) → ∀ y ∈ xs.set j d2, Vp (B + 1) T (bendP ls) y := fun T kT hT y hy => by
        rcases List.mem_or_eq_of_mem_set hy with hy | rfl
        · exact ((hv y hy).keep kT).mono (Nat.le_succ _) le_bend
        · refine cl T kT fun k c hk e => hT k c (by rw [List.length_append] at hk; omega) ?_
          rw [← set4, List.getElem?_set_ne (by rw [List.length_append, List.length_singleton] at hk; omega)]
          exact e
      have sl : (xs.set j d2).length ≤ max 3 (l + 1) := by rw [List.length_set]; omega
      refine ⟨_, _, .lst (xs.set j d2) :: more, key, b5, fun T kT hT => ?_⟩
      rcases lt with rfl | ⟨h, _⟩
      · exact ⟨sl, each T kT hT⟩
      · rw [if_pos h]
        exact ⟨by omega, xs.set j d2, hT _ _ (Nat.le_refl _) bx_get2, sl, each T kT hT⟩
    · obtain ⟨d', S', bt, b', v⟩ := tail_eq (d := d) b1 (fun T kT => q T (k1.trans kT)) lt (by omega)
      exact ⟨d', S', [], bent_out1 lt2 q0 r0 hx hc e1 bt, by rw [List.append_nil]; exact b', fun T kT _ => v (fun x hx => (hv x hx).keep kT) hl⟩
  · obtain ⟨d', S', bt, b', v⟩ := tail_eq (d := d) hS (fun T kT => q T (k0.trans kT)) lt (by omega)
    exact ⟨d', S', [], bent_out0 lt2 q0 r0 hx bt, by rw [List.append_nil]; exact b', fun T kT _ => v (fun x hx => (hv x hx).keep kT) hl⟩
theorem bent_gen {B : Nat} {S0 : Sto} (hB : B ≤ 900) : ∀ (m : Nat) (ls : List Nat), ls.length ≤ m → (∀ l ∈ ls, l ≤ 900) → ∀ (S rest : Sto) (d : D), IsBox S rest → Keeps2 S0 S → Vp B S0 ls d → BentOk B S0 (m + 1) ls d S rest := by
  intro m
  have flat : ∀ (m : Nat) (ls : List Nat) (S rest : Sto) (d : D), IsBox S rest → Vp B S0 ls d → isTy .tup d = false ∧ isTy .list d = false → BentOk B S0 (m + 1) ls d S rest := fun m ls S rest d hS h hf => by
    obtain ⟨d', S', e, b, v⟩ := bent_flat (m := m) (L := B) hS (fun T => h.any hf) hB
    exact ⟨d', S', [], e, by rw [List.append_nil]; exact b, fun T _ _ => (v T).mono (Nat.le_refl _) le_odd⟩
  induction m with
  | zero =>
    intro ls hls _ S rest d hS k0 h
    cases ls with
    | nil => exact flat 0 [] S rest d hS h (by cases d <;> first | exact ⟨rfl, rfl⟩ | exact h.elim)
    | cons l ls => simp at hls
  | succ m ih =>
    intro ls hls h9 S rest d hS k0 h
    cases ls with
    | nil => exact flat _ [] S rest d hS h (by cases d <;> first | exact ⟨rfl, rfl⟩ | exact h.elim)
    | cons l ls =>
      have ih2 := fun S rest x a b c => ih ls (by simpa using hls) (fun l h => h9 l (by simp [h])) S rest x a b c
      have h9l := h9 l (by simp)
      cases d with
      | non => exact flat _ _ S rest _ hS h ⟨rfl, rfl⟩
      | bl b => exact flat _ _ S rest _ hS h ⟨rfl, rfl⟩
      | int i => exact flat _ _ S rest _ hS h ⟨rfl, rfl⟩
      | str x => exact flat _ _ S rest _ hS h ⟨rfl, rfl⟩
      | tup xs => exact bent_seq (xs := xs) ih2 hS k0 (fun T _ => ⟨rfl, rfl⟩) (.inl rfl) h.1 h9l h.2
      | lst xs => exact bent_seq (xs := xs) ih2 hS k0 (fun T _ => ⟨rfl, rfl⟩) (.inr ⟨rfl, rfl, rfl, fun T => rfl⟩) h.1 h9l h.2
      | frz xs => exact h.elim
      | ref r =>
        obtain ⟨h2, xs, e, hl, g⟩ := h
        refine bent_seq (xs := xs) ih2 hS k0 (fun T kT => ?_) (.inr ⟨rfl, rfl, rfl, fun T => rfl⟩) hl h9l g
        have e2 := kT _ _ h2 e
        exact ⟨by simp only [seqOf, e2], by simp only [refOk, e2]⟩
      | err a b c d => exact h.elim
end K02
end

section
set_option Elab.async false
set_option linter.all false
set_option maxRecDepth 100000
set_option maxHeartbeats 1000000
open Z
local macro_rules | `(tactic| walk_at "z") => `(tactic| simp [fnF_eq, sSeq, sSet, sRet, sIf, sDrop, sNil, sAsg, sPar, sPut, F.then_nx, F.then_rt, F.then_bk, F.then_ct, F.then_ex, F.then_bad, F.then_ite, R.lift_ok, R.lift_ex, R.lift_bad, R.lift_ite, R.bind_ok, R.bind_ex, R.bind_bad, R.bind_ite, F.fin_nx, F.fin_rt, F.fin_ex, F.fin_bad, F.fin_ite, dVar, dC, bin, un, dAnd, dOr, dNot, tB', tAnd', tOr', tNot', dIf, asB_bl, aNil, aCons, dTup, mkT, dLst, mkL, fIx, seqOf, lstOf, L2.atI, L2.ixN, fAdd, fPlus, dSl, oSome, oNone, asI, fSl, fInT, fStr, fIntT, fFmt, dFmt, dJs, fPart, fStarts, fFind, fIsdig, fIsasc, fMulS, fSub, fMul, fLt, fGt, fLe, fGe, fEq, fDiv, fMod, fNeg, fPow, arity, dCall, dCallY, dCallK, dCallX, dSoSetL, dIsi2, fIsi2, noEx, dCB, fGcd, fLen, fMax2, fMin2, fInt, gN, gT, gAll, dIsi, fIsi, isTy, refOk, dIsN, dNotN, dIsB, dNotB, isNon, isBl, sz_lt, sz_le, sRaise, sTry, collapse_const, endX, dXf, dXis, dBM, dBM0, fPop, fApp, fRevM, fIns, fPopAt, tTr, fTr, aStar, dSoSet, sRetN, fTuple, fAbs, tyD, *])
local macro_rules | `(tactic| walk_at "y") => `(tactic| simp [fnF_eq, sSeq, sSet, sRet, sIf, sDrop, sNil, sAsg, sPar, sPut, F.then_nx, F.then_rt, F.then_bk, F.then_ct, F.then_ex, F.then_bad, F.then_ite, R.lift_ok, R.lift_ex, R.lift_bad, R.lift_ite, R.bind_ok, R.bind_ex, R.bind_bad, R.bind_ite, F.fin_nx, F.fin_rt, F.fin_ex, F.fin_bad, F.fin_ite, dVar, dC, bin, un, dAnd, dOr, dNot, tB', tAnd', tOr', tNot', dIf, asB_bl, aNil, aCons, dTup, mkT, dLst, mkL, fIx, seqOf, lstOf, L2.atI, L2.ixN, fAdd, fPlus, dSl, oSome, oNone, asI, fSl, fInT, fStr, fIntT, fFmt, dFmt, dJs, fPart, fStarts, fFind, fIsdig, fIsasc, fMulS, fSub, fMul, fLt, fGt, fLe, fGe, fEq, fDiv, fMod, fNeg, fPow, arity, dCall, dCallY, dCallK, dCallX, dSoSetL, dIsi2, fIsi2, noEx, dCB, fGcd, fLen, fMax2, fMin2, fInt, sFor, iRng1, fRng1, iSeq, asSeq, iAny, asAny, dIsi, fIsi, isTy, refOk, dIsN, dNotN, dIsB, dNotB, isNon, isBl, sz_lt, sz_le, sRaise, sTry, collapse_const, endX, dXf, dXis, dBM, dBM0, fPop, fApp, fRevM, fIns, fPopAt, tTr, fTr, aStar, dSoSet, sRetN, fTuple, fAbs, tyD, *])
local macro_rules | `(tactic| walk_at "v") => `(tactic| simp [fnF_eq, sSeq, sSet, sRet, sIf, sDrop, sNil, sAsg, sPar, sPut, F.then_nx, F.then_rt, F.then_bk, F.then_ct, F.then_ex, F.then_bad, F.then_ite, R.lift_ok, R.lift_ex, R.lift_bad, R.lift_ite, R.bind_ok, R.bind_ex, R.bind_bad, R.bind_ite, F.fin_nx, F.fin_rt, F.fin_ex, F.fin_bad, F.fin_ite, dVar, dC, bin, un, dAnd, dOr, dNot, tB', tAnd', tOr', tNot', dIf, asB_bl, aNil, aCons, dTup, mkT, dLst, mkL, seqOf, lstOf, fAdd, fPlus, dSl, oSome, oNone, asI, fInT, fStr, fIntT, fFmt, dFmt, dJs, fPart, fStarts, fFind, fIsdig, fIsasc, fMulS, fSub, fLt, fGt, fLe, fGe, fEq, fMod, fNeg, fPow, arity, dCall, dCallY, dCallK, dCallX, dSoSetL, dIsi2, fIsi2, noEx, dCB, fGcd, fMax2, fMin2, fInt, gN, gT, gAll, dIsi, fIsi, isTy, refOk, dIsN, dNotN, dIsB, dNotB, isNon, isBl, sz_lt, sz_le, sRaise, sTry, collapse_const, endX, dXf, dXis, dBM, dBM0, tTr, fTr, aStar, sRetN, fAbs, *])
local macro_rules | `(tactic| walk_at "u") => `(tactic| simp [fnF_eq, sSeq, sSet, sRet, sIf, sDrop, sNil, sAsg, sPar, sPut, F.then_nx, F.then_rt, F.then_bk, F.then_ct, F.then_ex, F.then_bad, F.then_ite, R.lift_ok, R.lift_ex, R.lift_bad, R.lift_ite, R.bind_ok, R.bind_ex, R.bind_bad, R.bind_ite, F.fin_nx, F.fin_rt, F.fin_ex, F.fin_bad, F.fin_ite, dVar, dC, bin, un, dAnd, dOr, dNot, tB', tAnd', tOr', tNot', dIf, asB_bl, aNil, aCons, dTup, mkT, dLst, mkL, seqOf, lstOf, fAdd, fPlus, dSl, oSome, oNone, asI, fInT, fStr, fIntT, fFmt, dFmt, dJs, fPart, fStarts, fFind, fIsdig, fIsasc, fMulS, fSub, fLt, fGt, fLe, fGe, fEq, fMod, fNeg, fPow, arity, dCall, dCallY, dCallK, dCallX, dSoSetL, dIsi2, fIsi2, noEx, dCB, fGcd, fMax2, fMin2, fInt, dIsi, fIsi, isTy, refOk, dIsN, dNotN, dIsB, dNotB, isNon, isBl, sz_lt, sz_le, sRaise, sTry, collapse_const, endX, dXf, dXis, dBM, dBM0, tTr, fTr, aStar, sRetN, fAbs, sFor, iAny, iRng1, iEn, *])
local macro_rules | `(tactic| walk_at "t") => `(tactic| simp [fnF_eq, sSeq, sSet, sRet, sIf, sDrop, sNil, sAsg, sPar, sPut, F.then_nx, F.then_rt, F.then_bk, F.then_ct, F.then_ex, F.then_bad, F.then_ite, R.lift_ok, R.lift_ex, R.lift_bad, R.lift_ite, R.bind_ok, R.bind_ex, R.bind_bad, R.bind_ite, F.fin_nx, F.fin_rt, F.fin_ex, F.fin_bad, F.fin_ite, dVar, dC, bin, un, dAnd, dOr, dNot, tB', tAnd', tOr', tNot', dIf, asB_bl, aNil, aCons, dTup, mkT, dLst, mkL, seqOf, lstOf, fAdd, dSl, oSome, oNone, asI, fInT, fStr, fIntT, fFmt, dFmt, dJs, fPart, fStarts, fFind, fIsdig, fIsasc, fMulS, fSub, fLt, fGt, fLe, fGe, fEq, fMod, fNeg, fPow, arity, dCall, dCallY, dCallK, dCallX, dSoSetL, dIsi2, fIsi2, noEx, dCB, fGcd, fMax2, fMin2, fInt, dIsi, fIsi, isTy, refOk, dIsN, dNotN, dIsB, dNotB, isNon, isBl, sz_lt, sz_le, sRaise, sTry, collapse_const, endX, dXf, dXis, dBM, dBM0, tTr, fTr, aStar, sRetN, fAbs, sFor, iAny, iRng1, iEn, *])
local macro_rules | `(tactic| walk_at "w") => `(tactic| simp [fnF_eq, sSeq, sSet, sRet, sIf, sDrop, sNil, sAsg, sPar, sPut, F.then_nx, F.then_rt, F.then_bk, F.then_ct, F.then_ex, F.then_bad, F.then_ite, R.lift_ok, R.lift_ex, R.lift_bad, R.lift_ite, R.bind_ok, R.bind_ex, R.bind_bad, R.bind_ite, F.fin_nx, F.fin_rt, F.fin_ex, F.fin_bad, F.fin_ite, dVar, dC, bin, un, dAnd, dOr, dNot, tB', tAnd', tOr', tNot', dIf, asB_bl, aNil, aCons, dTup, mkT, dLst, mkL, seqOf, lstOf, fAdd, dSl, oSome, oNone, asI, fInT, fStr, fIntT, fFmt, dFmt, dJs, fPart, fStarts, fFind, fIsdig, fIsasc, fMulS, fSub, fLt, fGt, fLe, fGe, fEq, fMod, fNeg, fPow, arity, dCall, dCallY, dCallK, dCallX, dSoSetL, dIsi2, noEx, dCB, fGcd, fMax2, fMin2, fInt, dIsi, dIsN, dNotN, dIsB, dNotB, isNon, isBl, sz_lt, sz_le, sRaise, sTry, collapse_const, endX, dXf, dXis, dBM, dBM0, tTr, fTr, aStar, sRetN, fAbs, sFor, iAny, iRng1, iEn, *])
namespace K02
open PySem
def bk : List Nat → Nat
  | [] => 1
  | l :: ls => 1 + l * (bk ls + 1)
theorem trO_all {f : D → Option PyData} {P : PyData → Prop} : ∀ {xs : List D}, (∀ x ∈ xs, ∃ p, f x = some p ∧ P p) → ∃ ps, trO f xs = some ps ∧ ps.length = xs.length ∧ ∀ p ∈ ps, P p
  | [], _ => ⟨[], rfl, rfl, by simp⟩
  | x :: xs, h => by
    obtain ⟨p, e, hp⟩ := h x (by simp)
    obtain ⟨ps, e2, l, hps⟩ := trO_all (xs := xs) fun y hy => h y (by simp [hy])
    refine ⟨p :: ps, by rw [trO, e, Option.bind_some, e2]; rfl, by simp [l], fun q hq => ?_⟩
    rcases List.mem_cons.mp hq with rfl | hq
    · exact hp
    · exact hps q hq
structure Shows (k w : Nat) (p : PyData) : Prop where
  sh : p.showable = true
  nd : p.hasDict = false
  dp : p.depth ≤ k
  lv : p.leavesShort 22 = true
  bl : p.bulk ≤ w
theorem shows_all {k w : Nat} : ∀ {ps : List PyData}, (∀ p ∈ ps, Shows k w p) → PyData.showableAll ps = true ∧ PyData.hasDictAll ps = false ∧ PyData.depthAll ps ≤ k ∧ PyData.leavesShortAll 22 ps = true ∧ PyData.bulkAll ps ≤ ps.length * (w + 1)
  | [], _ => by simp [PyData.showableAll, PyData.hasDictAll, PyData.depthAll, PyData.leavesShortAll, PyData.bulkAll]
  | p :: ps, h => by
    have a := h p (by simp)
    obtain ⟨b1, b2, b3, b4, b5⟩ := shows_all (ps := ps) fun q hq => h q (by simp [hq])
    refine ⟨by simp [PyData.showableAll, a.sh, b1], by simp [PyData.hasDictAll, a.nd, b2], ?_, by simp [PyData.leavesShortAll, a.lv, b4], ?_⟩
    · rw [PyData.depthAll]; exact Nat.max_le.mpr ⟨a.dp, b3⟩
    · rw [PyData.bulkAll, List.length_cons, Nat.succ_mul]
      have := a.bl
      omega
theorem shows_tup {k w l : Nat} {ps : List PyData} (h : ∀ p ∈ ps, Shows k w p) (hl : ps.length ≤ l) : Shows (k + 1) (1 + l * (w + 1)) (.tuple ps) ∧ Shows (k + 1) (1 + l * (w + 1)) (.list ps) := by
  obtain ⟨b1, b2, b3, b4, b5⟩ := shows_all h
  have m := Nat.mul_le_mul_right (w + 1) hl
  exact ⟨⟨by rw [PyData.showable, b1], by rw [PyData.hasDict, b2], by rw [PyData.depth]; omega, by rw [PyData.leavesShort, b4], by rw [PyData.bulk]; omega⟩,
    ⟨by rw [PyData.showable, b1], by rw [PyData.hasDict, b2], by rw [PyData.depth]; omega, by rw [PyData.leavesShort, b4], by rw [PyData.bulk]; omega⟩⟩
theorem Shows.up {k k' w w' : Nat} {p : PyData} (h : Shows k w p) (hk : k ≤ k') (hw : w ≤ w') : Shows k' w' p := ⟨h.sh, h.nd, Nat.le_trans h.dp hk, h.lv, Nat.le_trans h.bl hw⟩
theorem shows_int {i : Int} {k : Nat} (h : i.natAbs < 2 ^ 60) : Shows k 0 (.int i) := by
  have h1 : i.natAbs.log2 < 60 := by
    by_cases z : i.natAbs = 0
    · rw [z]; decide
    · exact (Nat.log2_lt z).mpr h
  refine ⟨?_, rfl, Nat.zero_le _, ?_, Nat.zero_le _⟩
  · rw [PyData.showable]; exact decide_eq_true (by omega)
  · rw [PyData.leavesShort]
    refine decide_eq_true ?_
    have h2 : i.natAbs < 10 ^ 21 := Nat.lt_of_lt_of_le h (by decide)
    have h3 := int_text_length_le10 (a := i) (k := 21) (by decide) h2
    show (Str.ofString (toString i)).length ≤ 22
    rw [ofString_length]
    exact h3
theorem bk_pos : ∀ {ls : List Nat}, 1 ≤ bk ls
  | [] => Nat.le_refl _
  | _ :: _ => Nat.le_add_right _ _
theorem show_of {B : Nat} {S : Sto} (hB : B ≤ 1000) : ∀ {ls : List Nat} {d : D} {n : Nat}, ls.length ≤ n → Vp B S ls d → ∃ p, pyF n S d = some p ∧ Shows ls.length (bk ls) p := by
  intro ls
  have flat : ∀ {ls : List Nat} {d : D} {n : Nat}, Vp B S ls d → isTy .tup d = false ∧ isTy .list d = false → ∃ p, pyF n S d = some p ∧ Shows ls.length (bk ls) p := fun {ls d n} h hf => by
    have bp := bk_pos (ls := ls)
    cases d with
    | non => exact ⟨.none, by cases n <;> rfl, rfl, rfl, Nat.zero_le _, rfl, Nat.zero_le _⟩
    | bl b => exact ⟨.bool b, by cases n <;> rfl, rfl, rfl, Nat.zero_le _, rfl, Nat.zero_le _⟩
    | int i => exact ⟨.int i, by cases n <;> rfl, (shows_int (k := 0) (show i.natAbs < 2 ^ 60 by have : i.natAbs < 2 ^ 59 + B := (by cases ls <;> exact h); omega)).up (Nat.zero_le _) (Nat.zero_le _)⟩
    | str x =>
      have h : ShortS x := by cases ls <;> exact h
      refine ⟨.str x, by cases n <;> rfl, rfl, rfl, Nat.zero_le _, ?_, Nat.le_trans h.1 bp⟩
      rw [PyData.leavesShort, List.all_eq_true]
      exact fun c hc => decide_eq_true (h.2 c hc)
    | tup xs => cases hf.1
    | lst xs => cases hf.2
    | frz xs => cases hf.2
    | ref r => cases hf.2
    | err a b c d => cases ls <;> exact h.elim
  induction ls with
  | nil => intro d n _ h; exact flat h (by cases d <;> first | exact ⟨rfl, rfl⟩ | exact h.elim)
  | cons l ls ih =>
    intro d n hn h
    obtain ⟨n, rfl⟩ : ∃ m, n = m + 1 := ⟨n - 1, by simp at hn; omega⟩
    have hn2 : ls.length ≤ n := by simpa using hn
    have seq : ∀ xs : List D, xs.length ≤ l → (∀ x ∈ xs, Vp B S ls x) → ∃ ps, trO (pyF n S) xs = some ps ∧ Shows (l :: ls).length (bk (l :: ls)) (.tuple ps) ∧ Shows (l :: ls).length (bk (l :: ls)) (.list ps) := fun xs hl hx => by
      obtain ⟨ps, e, len, a⟩ := trO_all (f := pyF n S) (P := Shows ls.length (bk ls)) fun x h => ih hn2 (hx x h)
      obtain ⟨t, u⟩ := shows_tup a (l := l) (by omega)
      exact ⟨ps, e, t, u⟩
    cases d with
    | non => exact flat h ⟨rfl, rfl⟩
    | bl b => exact flat h ⟨rfl, rfl⟩
    | int i => exact flat h ⟨rfl, rfl⟩
    | str x => exact flat h ⟨rfl, rfl⟩
    | tup xs =>
      obtain ⟨ps, e, t, _⟩ := seq xs h.1 h.2
      exact ⟨.tuple ps, by rw [pyF, e]; rfl, t⟩
    | lst xs =>
      obtain ⟨ps, e, _, t⟩ := seq xs h.1 h.2
      exact ⟨.list ps, by rw [pyF, e]; rfl, t⟩
    | frz xs => exact h.elim
    | ref r =>
      obtain ⟨h2, xs, e0, hl, g⟩ := h
      obtain ⟨ps, e, _, t⟩ := seq xs hl g
      exact ⟨.list ps, by rw [pyF, e0]; simp only [e]; rfl, t⟩
    | err a b c d => exact h.elim
theorem show_ok {B : Nat} {S : Sto} {ls : List Nat} {d : D} (hB : B ≤ 1000) (hn : ls.length ≤ 60) (hb : bk ls ≤ 600000) (h : Vp B S ls d) : ∃ p, pyF 60 S d = some p ∧ ShowOk p := by
  obtain ⟨p, e, s⟩ := show_of (n := 60) hB hn h
  have l := PyData.shown_le_bulk 22 (by decide) p s.lv
  have b := s.bl
  have sz : sizeLine = 2 ^ 24 := rfl
  exact ⟨p, e, s.sh, by omega, Nat.le_trans s.dp hn, s.nd⟩
end K02
end

section
set_option Elab.async false
set_option linter.all false
set_option maxRecDepth 100000
set_option maxHeartbeats 1000000
open Z
local macro_rules | `(tactic| walk_at "z") => `(tactic| simp [fnF_eq, sSeq, sSet, sRet, sIf, sDrop, sNil, sAsg, sPar, sPut, F.then_nx, F.then_rt, F.then_bk, F.then_ct, F.then_ex, F.then_bad, F.then_ite, R.lift_ok, R.lift_ex, R.lift_bad, R.lift_ite, R.bind_ok, R.bind_ex, R.bind_bad, R.bind_ite, F.fin_nx, F.fin_rt, F.fin_ex, F.fin_bad, F.fin_ite, dVar, dC, bin, un, dAnd, dOr, dNot, tB', tAnd', tOr', tNot', dIf, asB_bl, aNil, aCons, dTup, mkT, dLst, mkL, fIx, seqOf, lstOf, L2.atI, L2.ixN, fAdd, fPlus, dSl, oSome, oNone, asI, fSl, fInT, fStr, fIntT, fFmt, dFmt, dJs, fPart, fStarts, fFind, fIsdig, fIsasc, fMulS, fSub, fMul, fLt, fGt, fLe, fGe, fEq, fDiv, fMod, fNeg, fPow, arity, dCall, dCallY, dCallK, dCallX, dSoSetL, dIsi2, fIsi2, noEx, dCB, fGcd, fLen, fMax2, fMin2, fInt, gN, gT, gAll, dIsi, fIsi, isTy, refOk, dIsN, dNotN, dIsB, dNotB, isNon, isBl, sz_lt, sz_le, sRaise, sTry, collapse_const, endX, dXf, dXis, dBM, dBM0, fPop, fApp, fRevM, fIns, fPopAt, tTr, fTr, aStar, dSoSet, sRetN, fTuple, fAbs, tyD, *])
local macro_rules | `(tactic| walk_at "y") => `(tactic| simp [fnF_eq, sSeq, sSet, sRet, sIf, sDrop, sNil, sAsg, sPar, sPut, F.then_nx, F.then_rt, F.then_bk, F.then_ct, F.then_ex, F.then_bad, F.then_ite, R.lift_ok, R.lift_ex, R.lift_bad, R.lift_ite, R.bind_ok, R.bind_ex, R.bind_bad, R.bind_ite, F.fin_nx, F.fin_rt, F.fin_ex, F.fin_bad, F.fin_ite, dVar, dC, bin, un, dAnd, dOr, dNot, tB', tAnd', tOr', tNot', dIf, asB_bl, aNil, aCons, dTup, mkT, dLst, mkL, fIx, seqOf, lstOf, L2.atI, L2.ixN, fAdd, fPlus, dSl, oSome, oNone, asI, fSl, fInT, fStr, fIntT, fFmt, dFmt, dJs, fPart, fStarts, fFind, fIsdig, fIsasc, fMulS, fSub, fMul, fLt, fGt, fLe, fGe, fEq, fDiv, fMod, fNeg, fPow, arity, dCall, dCallY, dCallK, dCallX, dSoSetL, dIsi2, fIsi2, noEx, dCB, fGcd, fLen, fMax2, fMin2, fInt, sFor, iRng1, fRng1, iSeq, asSeq, iAny, asAny, dIsi, fIsi, isTy, refOk, dIsN, dNotN, dIsB, dNotB, isNon, isBl, sz_lt, sz_le, sRaise, sTry, collapse_const, endX, dXf, dXis, dBM, dBM0, fPop, fApp, fRevM, fIns, fPopAt, tTr, fTr, aStar, dSoSet, sRetN, fTuple, fAbs, tyD, *])
local macro_rules | `(tactic| walk_at "v") => `(tactic| simp [fnF_eq, sSeq, sSet, sRet, sIf, sDrop, sNil, sAsg, sPar, sPut, F.then_nx, F.then_rt, F.then_bk, F.then_ct, F.then_ex, F.then_bad, F.then_ite, R.lift_ok, R.lift_ex, R.lift_bad, R.lift_ite, R.bind_ok, R.bind_ex, R.bind_bad, R.bind_ite, F.fin_nx, F.fin_rt, F.fin_ex, F.fin_bad, F.fin_ite, dVar, dC, bin, un, dAnd, dOr, dNot, tB', tAnd', tOr', tNot', dIf, asB_bl, aNil, aCons, dTup, mkT, dLst, mkL, seqOf, lstOf, fAdd, fPlus, dSl, oSome, oNone, asI, fInT, fStr, fIntT, fFmt, dFmt, dJs, fPart, fStarts, fFind, fIsdig, fIsasc, fMulS, fSub, fLt, fGt, fLe, fGe, fEq, fMod, fNeg, fPow, arity, dCall, dCallY, dCallK, dCallX, dSoSetL, dIsi2, fIsi2, noEx, dCB, fGcd, fMax2, fMin2, fInt, gN, gT, gAll, dIsi, fIsi, isTy, refOk, dIsN, dNotN, dIsB, dNotB, isNon, isBl, sz_lt, sz_le, sRaise, sTry, collapse_const, endX, dXf, dXis, dBM, dBM0, tTr, fTr, aStar, sRetN, fAbs, *])
local macro_rules | `(tactic| walk_at "u") => `(tactic| simp [fnF_eq, sSeq, sSet, sRet, sIf, sDrop, sNil, sAsg, sPar, sPut, F.then_nx, F.then_rt, F.then_bk, F.then_ct, F.then_ex, F.then_bad, F.then_ite, R.lift_ok, R.lift_ex, R.lift_bad, R.lift_ite, R.bind_ok, R.bind_ex, R.bind_bad, R.bind_ite, F.fin_nx, F.fin_rt, F.fin_ex, F.fin_bad, F.fin_ite, dVar, dC, bin, un, dAnd, dOr, dNot, tB', tAnd', tOr', tNot', dIf, asB_bl, aNil, aCons, dTup, mkT, dLst, mkL, seqOf, lstOf, fAdd, fPlus, dSl, oSome, oNone, asI, fInT, fStr, fIntT, fFmt, dFmt, dJs, fPart, fStarts, fFind, fIsdig, fIsasc, fMulS, fSub, fLt, fGt, fLe, fGe, fEq, fMod, fNeg, fPow, arity, dCall, dCallY, dCallK, dCallX, dSoSetL, dIsi2, fIsi2, noEx, dCB, fGcd, fMax2, fMin2, fInt, dIsi, fIsi, isTy, refOk, dIsN, dNotN, dIsB, dNotB, isNon, isBl, sz_lt, sz_le, sRaise, sTry, collapse_const, endX, dXf, dXis, dBM, dBM0, tTr, fTr, aStar, sRetN, fAbs, sFor, iAny, iRng1, iEn, *])
local macro_rules | `(tactic| walk_at "t") => `(tactic| simp [fnF_eq, sSeq, sSet, sRet, sIf, sDrop, sNil, sAsg, sPar, sPut, F.then_nx, F.then_rt, F.then_bk, F.then_ct, F.then_ex, F.then_bad, F.then_ite, R.lift_ok, R.lift_ex, R.lift_bad, R.lift_ite, R.bind_ok, R.bind_ex, R.bind_bad, R.bind_ite, F.fin_nx, F.fin_rt, F.fin_ex, F.fin_bad, F.fin_ite, dVar, dC, bin, un, dAnd, dOr, dNot, tB', tAnd', tOr', tNot', dIf, asB_bl, aNil, aCons, dTup, mkT, dLst, mkL, seqOf, lstOf, fAdd, dSl, oSome, oNone, asI, fInT, fStr, fIntT, fFmt, dFmt, dJs, fPart, fStarts, fFind, fIsdig, fIsasc, fMulS, fSub, fLt, fGt, fLe, fGe, fEq, fMod, fNeg, fPow, arity, dCall, dCallY, dCallK, dCallX, dSoSetL, dIsi2, fIsi2, noEx, dCB, fGcd, fMax2, fMin2, fInt, dIsi, fIsi, isTy, refOk, dIsN, dNotN, dIsB, dNotB, isNon, isBl, sz_lt, sz_le, sRaise, sTry, collapse_const, endX, dXf, dXis, dBM, dBM0, tTr, fTr, aStar, sRetN, fAbs, sFor, iAny, iRng1, iEn, *])
local macro_rules | `(tactic| walk_at "w") => `(tactic| simp [fnF_eq, sSeq, sSet, sRet, sIf, sDrop, sNil, sAsg, sPar, sPut, F.then_nx, F.then_rt, F.then_bk, F.then_ct, F.then_ex, F.then_bad, F.then_ite, R.lift_ok, R.lift_ex, R.lift_bad, R.lift_ite, R.bind_ok, R.bind_ex, R.bind_bad, R.bind_ite, F.fin_nx, F.fin_rt, F.fin_ex, F.fin_bad, F.fin_ite, dVar, dC, bin, un, dAnd, dOr, dNot, tB', tAnd', tOr', tNot', dIf, asB_bl, aNil, aCons, dTup, mkT, dLst, mkL, seqOf, lstOf, fAdd, dSl, oSome, oNone, asI, fInT, fStr, fIntT, fFmt, dFmt, dJs, fPart, fStarts, fFind, fIsdig, fIsasc, fMulS, fSub, fLt, fGt, fLe, fGe, fEq, fMod, fNeg, fPow, arity, dCall, dCallY, dCallK, dCallX, dSoSetL, dIsi2, noEx, dCB, fGcd, fMax2, fMin2, fInt, dIsi, dIsN, dNotN, dIsB, dNotB, isNon, isBl, sz_lt, sz_le, sRaise, sTry, collapse_const, endX, dXf, dXis, dBM, dBM0, tTr, fTr, aStar, sRetN, fAbs, sFor, iAny, iRng1, iEn, *])
namespace K02
theorem go_step {g : Sto → Prop} {t : Tg} {b : SDen} {x : D} {xs : List D} {e e1 e2 : Env} {S S2 : Sto} (hg : g S) (ht : t.run x e = some e1) (hb : b e1 S = .nx e2 S2) : forGo g t b (x :: xs) e S = forGo g t b xs e2 S2 := by
  rw [forGo, if_pos hg, ht]
  simp only [hb]
noncomputable def l1B : SDen := (sSeq (sIf (tNot' (tB' (dCall (arity 2 F_law_judged) [] (aCons (dVar 2) (aCons (dVar 3) (aNil)))))) (sRet (dC (.bl false))) (sNil)) (sIf (tAnd' (tB' (bin fGt (dCall (arity 2 F_law_draw) [] (aCons (dVar 1) (aCons (dC (.int 3)) (aNil)))) (dC (.int 0)))) (tB' (bin fLt (dVar 4) (dC (.int 2))))) (sSet 3 (dCall (arity 2 (F_law_bent 8)) [] (aCons (dVar 1) (aCons (dVar 3) (aNil))))) (sNil)))
noncomputable def l2B : SDen := (sSet 3 (dCall (arity 2 F_law_pick) [] (aCons (dVar 1) (aCons (dLst false (aCons (dTup (aCons (dVar 3) (aNil))) (aCons (dLst false (aCons (dVar 3) (aNil))) (aNil)))) (aNil)))))
noncomputable def lT : SDen := (sSeq (sSet 5 (dCB fRepr (aCons (dVar 3) (aNil)))) (sSeq (sIf (tOr' (tNot' (tB' (dCall (arity 2 F_law_judged) [] (aCons (dVar 2) (aCons (dVar 3) (aNil)))))) (tNot' (tB' (dCall (arity 2 F_law_judged) [] (aCons (dVar 2) (aCons (dVar 3) (aNil))))))) (sRet (dC (.bl false))) (sNil)) (sRet (bin (fEq false) (dCB fRepr (aCons (dVar 3) (aNil))) (dVar 5)))))
theorem law_def : Flaw = fnF 6 (sSeq (sSet 1 (dCall (arity 1 F_law_box) [] (aCons (dVar 0) (aNil)))) (sSeq (sSet 2 (dCall (arity 2 F_law_pick) [] (aCons (dVar 1) (aCons (dLst false (aCons (dC (.int 1)) (aCons (dC (.int 2)) (aCons (dC (.int 2)) (aCons (dC (.int 3)) (aCons (dC (.int 3)) (aCons (dC (.int 6)) (aNil)))))))) (aNil))))) (sSeq (sSet 3 (dCall (arity 3 F_law_good) [] (aCons (dVar 1) (aCons (dCall (arity 2 F_law_draw) [] (aCons (dVar 1) (aCons (dC (.int 6)) (aNil)))) (aCons (dVar 2) (aNil)))))) (sSeq (sFor (iRng1 (aCons (dC (.int 3)) (aNil))) (gN 4) l1B) (sSeq (sIf (tB' (bin (fEq false) (dCall (arity 2 F_law_draw) [] (aCons (dVar 1) (aCons (dC (.int 8)) (aNil)))) (dC (.int 0)))) (sFor (iRng1 (aCons (bin fPlus (dC (.int 1)) (dCall (arity 2 F_law_draw) [] (aCons (dVar 1) (aCons (dC (.int 4)) (aNil))))) (aNil))) (gN 4) l2B) (sNil)) lT))))) := rfl
theorem judged_vp {B : Nat} {ls : List Nat} {n : Int} {d : D} {S : Sto} (v : Vp B S ls d) (hb : B ≤ 900) (h9 : ∀ l ∈ ls, l ≤ 900) (hn : 1 ≤ n ∧ n ≤ 6) : F_law_judged [.int n, d] S = .ok (.bl true) S :=
  judged_eq ((v.vd hb h9).okV (by decide)) ⟨hn.1, by omega⟩
theorem l1_turn {B : Nat} {ls : List Nat} {n k : Int} {d : D} {sc z5 : Option D} {S rest : Sto} (hS : IsBox S rest) (v : Vp B S ls d) (hb : B ≤ 900) (hls : ls.length ≤ 7) (h9 : ∀ l ∈ ls, l ≤ 900) (hn : 1 ≤ n ∧ n ≤ 6) (hk : k < 2) :
    ∃ d' S' more, l1B [sc, some (.ref 1), some (.int n), some d, some (.int k), z5] S = .nx [sc, some (.ref 1), some (.int n), some d', some (.int k), z5] S' ∧ IsBox S' (rest ++ more) ∧ Vp (B + 1) S' (bendP ls) d' := by
  have j := judged_vp v hb h9 hn
  obtain ⟨c, S1, e1, b1, c1, c2⟩ := draw_eq (n := 3) hS (by decide) (by decide)
  have k1 := box_keep hS b1
  by_cases hc : 0 < c
  · obtain ⟨d', S2, more, e2, b2, cl⟩ := bent_gen hb 7 ls hls h9 S1 rest d b1 k1 v
    have v2 := cl S2 (k1.trans (box_keeps b1 b2)) (fun k c _ h => h)
    refine ⟨d', S2, more, ?_, b2, v2⟩
    clear hS v b1 k1 c1 c2 b2 cl v2 h9
    unfold l1B
    simp [sSeq, sIf, tNot', tAnd', tB', dCall, arity, aCons, aNil, dVar, dC, bin, R.bind_ok, R.lift_ok, asB_bl, j, sNil, F.then_nx, e1, fGt, fLt, hc, hk, sSet, e2]
  · refine ⟨d, S1, [], ?_, by rw [List.append_nil]; exact b1, (v.keep k1).mono (Nat.le_succ _) le_bend⟩
    clear hS v b1 k1 c1 c2 h9
    unfold l1B
    simp [sSeq, sIf, tNot', tAnd', tB', dCall, arity, aCons, aNil, dVar, dC, bin, R.bind_ok, R.lift_ok, asB_bl, j, sNil, F.then_nx, e1, fGt, fLt, hc, hk]
theorem l1_last {B : Nat} {ls : List Nat} {n : Int} {d : D} {sc z5 : Option D} {S rest : Sto} (hS : IsBox S rest) (v : Vp B S ls d) (hb : B ≤ 900) (h9 : ∀ l ∈ ls, l ≤ 900) (hn : 1 ≤ n ∧ n ≤ 6) :
    ∃ S', l1B [sc, some (.ref 1), some (.int n), some d, some (.int 2), z5] S = .nx [sc, some (.ref 1), some (.int n), some d, some (.int 2), z5] S' ∧ IsBox S' rest ∧ Vp B S' ls d := by
  have j := judged_vp v hb h9 hn
  obtain ⟨c, S1, e1, b1, c1, c2⟩ := draw_eq (n := 3) hS (by decide) (by decide)
  refine ⟨S1, ?_, b1, v.keep (box_keep hS b1)⟩
  clear hS v b1 c1 c2 h9
  unfold l1B
  by_cases hc : 0 < c <;> simp [sSeq, sIf, tNot', tAnd', tB', dCall, arity, aCons, aNil, dVar, dC, bin, R.bind_ok, R.lift_ok, asB_bl, j, sNil, F.then_nx, e1, fGt, fLt, hc]
theorem l1_go {n : Int} {d : D} {sc z4 z5 : Option D} {S rest : Sto} (hS : IsBox S rest) (v : Vp 7 S [7, 7, 7] d) (hn : 1 ≤ n ∧ n ≤ 6) :
    ∃ d' S' more, forGo (fun _ => True) (gN 4) l1B (rngD 0 3) [sc, some (.ref 1), some (.int n), some d, z4, z5] S = .nx [sc, some (.ref 1), some (.int n), some d', some (.int 2), z5] S' ∧ IsBox S' (rest ++ more) ∧ Vp 9 S' [9, 9, 9, 4, 3, 3, 2] d' := by
  obtain ⟨d1, S1, m1, e1, b1, v1⟩ := l1_turn (k := 0) (sc := sc) (z5 := z5) hS v (by decide) (by decide) (by decide) hn (by decide)
  obtain ⟨d2, S2, m2, e2, b2, v2⟩ := l1_turn (k := 1) (sc := sc) (z5 := z5) b1 v1 (by decide) (by decide) (by decide) hn (by decide)
  obtain ⟨S3, e3, b3, v3⟩ := l1_last (sc := sc) (z5 := z5) b2 v2 (by decide) (by decide) hn
  refine ⟨d2, S3, m1 ++ m2, ?_, by rw [← List.append_assoc]; exact b3, v3⟩
  have r : rngD 0 3 = [.int 0, .int 1, .int 2] := rfl
  rw [r, go_step trivial rfl e1, go_step trivial rfl e2, go_step trivial rfl e3]
  exact forGo_nil trivial
theorem l2_turn {B : Nat} {ls : List Nat} {n : Int} {d : D} {sc z4 z5 : Option D} {S rest : Sto} (hS : IsBox S rest) (v : Vp B S ls d) :
    ∃ d' S', l2B [sc, some (.ref 1), some (.int n), some d, z4, z5] S = .nx [sc, some (.ref 1), some (.int n), some d', z4, z5] S' ∧ IsBox S' rest ∧ Vp B S' (1 :: ls) d' := by
  obtain ⟨d', S', e, b, m⟩ := pick_gen (ds := [.tup [d], .lst [d]]) hS (Nat.le_of_ble_eq_true rfl) (Nat.le_of_ble_eq_true rfl)
  have w := v.keep (box_keep hS b)
  refine ⟨d', S', ?_, b, ?_⟩
  · have hf : Fit 1 := of_eq_true (sz_le (by decide))
    have hf2 : Fit 2 := of_eq_true (sz_le (by decide))
    clear hS b m v w
    unfold l2B
    simp [sSet, dCall, arity, aCons, aNil, dVar, dLst, dTup, mkT, mkL, hf, hf2, R.bind_ok, R.lift_ok, e]
  · simp only [List.mem_cons, List.not_mem_nil, or_false] at m
    rcases m with rfl | rfl <;> exact ⟨Nat.le_refl _, fun x hx => by cases List.mem_singleton.mp hx; exact w⟩
theorem l2_go {B : Nat} {n : Int} {sc z5 : Option D} {rest : Sto} : ∀ (xs : List D) (ls : List Nat) (d : D) (z4 : Option D) (S : Sto), IsBox S rest → Vp B S ls d →
    ∃ d' z4' S', forGo (fun _ => True) (gN 4) l2B xs [sc, some (.ref 1), some (.int n), some d, z4, z5] S = .nx [sc, some (.ref 1), some (.int n), some d', z4', z5] S' ∧ IsBox S' rest ∧ Vp B S' (List.replicate xs.length 1 ++ ls) d'
  | [], ls, d, z4, S, hS, v => ⟨d, z4, S, forGo_nil trivial, hS, v⟩
  | x :: xs, ls, d, z4, S, hS, v => by
    obtain ⟨d1, S1, e1, b1, v1⟩ := l2_turn (n := n) (sc := sc) (z4 := some x) (z5 := z5) hS v
    obtain ⟨d2, z, S2, e2, b2, v2⟩ := l2_go xs (1 :: ls) d1 (some x) S1 b1 v1
    refine ⟨d2, z, S2, (go_step trivial rfl e1).trans e2, b2, ?_⟩
    have r : List.replicate (x :: xs).length 1 ++ ls = List.replicate xs.length 1 ++ (1 :: ls) := by
      rw [List.length_cons, List.replicate_succ', List.append_assoc]; rfl
    rw [r]
    exact v2
theorem lT_eq {B : Nat} {ls : List Nat} {n : Int} {d : D} {sc z4 : Option D} {S : Sto} (v : Vp B S ls d) (hb : B ≤ 900) (h9 : ∀ l ∈ ls, l ≤ 900) (hn : 1 ≤ n ∧ n ≤ 6) (hl : ls.length ≤ 60) (hk : bk ls ≤ 600000) :
    lT [sc, some (.ref 1), some (.int n), some d, z4, none] S = .rt (.bl true) S := by
  have j := judged_vp v hb h9 hn
  obtain ⟨p, e, ok⟩ := show_ok (by omega) hl hk v
  have r : fRepr [d] S = .ok (.str p.shown) S := by simp only [fRepr, e, if_pos ok]
  have q : fEq false (.str p.shown) (.str p.shown) S = .ok (.bl true) S := by simp [fEq]
  clear v h9 e ok
  generalize p.shown = t at *
  unfold lT
  simp [sSeq, sSet, sIf, sNil, sRet, tOr', tNot', tB', dCall, arity, aCons, aNil, dVar, dC, bin, dCB, R.bind_ok, R.lift_ok, asB_bl, j, F.then_nx, r, q]
theorem le_rep {k : Nat} {ls : List Nat} (hk : k ≤ 4) (h : bk (List.replicate 4 1 ++ ls) ≤ 600000) : bk (List.replicate k 1 ++ ls) ≤ 600000 := by
  have e : ∀ ls, bk (1 :: ls) = bk ls + 2 := fun ls => by rw [bk]; omega
  have z : ∀ k, bk (List.replicate k 1 ++ ls) = bk ls + 2 * k := fun k => by
    induction k with
    | zero => rfl
    | succ k ih => rw [List.replicate_succ, List.cons_append, e, ih]; omega
  rw [z] at h ⊢
  omega
end K02
end

section
set_option Elab.async false
set_option linter.all false
set_option maxRecDepth 100000
set_option maxHeartbeats 1000000
open Z
local macro_rules | `(tactic| walk_at "z") => `(tactic| simp [fnF_eq, sSeq, sSet, sRet, sIf, sDrop, sNil, sAsg, sPar, sPut, F.then_nx, F.then_rt, F.then_bk, F.then_ct, F.then_ex, F.then_bad, F.then_ite, R.lift_ok, R.lift_ex, R.lift_bad, R.lift_ite, R.bind_ok, R.bind_ex, R.bind_bad, R.bind_ite, F.fin_nx, F.fin_rt, F.fin_ex, F.fin_bad, F.fin_ite, dVar, dC, bin, un, dAnd, dOr, dNot, tB', tAnd', tOr', tNot', dIf, asB_bl, aNil, aCons, dTup, mkT, dLst, mkL, fIx, seqOf, lstOf, L2.atI, L2.ixN, fAdd, fPlus, dSl, oSome, oNone, asI, fSl, fInT, fStr, fIntT, fFmt, dFmt, dJs, fPart, fStarts, fFind, fIsdig, fIsasc, fMulS, fSub, fMul, fLt, fGt, fLe, fGe, fEq, fDiv, fMod, fNeg, fPow, arity, dCall, dCallY, dCallK, dCallX, dSoSetL, dIsi2, fIsi2, noEx, dCB, fGcd, fLen, fMax2, fMin2, fInt, gN, gT, gAll, dIsi, fIsi, isTy, refOk, dIsN, dNotN, dIsB, dNotB, isNon, isBl, sz_lt, sz_le, sRaise, sTry, collapse_const, endX, dXf, dXis, dBM, dBM0, fPop, fApp, fRevM, fIns, fPopAt, tTr, fTr, aStar, dSoSet, sRetN, fTuple, fAbs, tyD, *])
local macro_rules | `(tactic| walk_at "y") => `(tactic| simp [fnF_eq, sSeq, sSet, sRet, sIf, sDrop, sNil, sAsg, sPar, sPut, F.then_nx, F.then_rt, F.then_bk, F.then_ct, F.then_ex, F.then_bad, F.then_ite, R.lift_ok, R.lift_ex, R.lift_bad, R.lift_ite, R.bind_ok, R.bind_ex, R.bind_bad, R.bind_ite, F.fin_nx, F.fin_rt, F.fin_ex, F.fin_bad, F.fin_ite, dVar, dC, bin, un, dAnd, dOr, dNot, tB', tAnd', tOr', tNot', dIf, asB_bl, aNil, aCons, dTup, mkT, dLst, mkL, fIx, seqOf, lstOf, L2.atI, L2.ixN, fAdd, fPlus, dSl, oSome, oNone, asI, fSl, fInT, fStr, fIntT, fFmt, dFmt, dJs, fPart, fStarts, fFind, fIsdig, fIsasc, fMulS, fSub, fMul, fLt, fGt, fLe, fGe, fEq, fDiv, fMod, fNeg, fPow, arity, dCall, dCallY, dCallK, dCallX, dSoSetL, dIsi2, fIsi2, noEx, dCB, fGcd, fLen, fMax2, fMin2, fInt, sFor, iRng1, fRng1, iSeq, asSeq, iAny, asAny, dIsi, fIsi, isTy, refOk, dIsN, dNotN, dIsB, dNotB, isNon, isBl, sz_lt, sz_le, sRaise, sTry, collapse_const, endX, dXf, dXis, dBM, dBM0, fPop, fApp, fRevM, fIns, fPopAt, tTr, fTr, aStar, dSoSet, sRetN, fTuple, fAbs, tyD, *])
local macro_rules | `(tactic| walk_at "v") => `(tactic| simp [fnF_eq, sSeq, sSet, sRet, sIf, sDrop, sNil, sAsg, sPar, sPut, F.then_nx, F.then_rt, F.then_bk, F.then_ct, F.then_ex, F.then_bad, F.then_ite, R.lift_ok, R.lift_ex, R.lift_bad, R.lift_ite, R.bind_ok, R.bind_ex, R.bind_bad, R.bind_ite, F.fin_nx, F.fin_rt, F.fin_ex, F.fin_bad, F.fin_ite, dVar, dC, bin, un, dAnd, dOr, dNot, tB', tAnd', tOr', tNot', dIf, asB_bl, aNil, aCons, dTup, mkT, dLst, mkL, seqOf, lstOf, fAdd, fPlus, dSl, oSome, oNone, asI, fInT, fStr, fIntT, fFmt, dFmt, dJs, fPart, fStarts, fFind, fIsdig, fIsasc, fMulS, fSub, fLt, fGt, fLe, fGe, fEq, fMod, fNeg, fPow, arity, dCall, dCallY, dCallK, dCallX, dSoSetL, dIsi2, fIsi2, noEx, dCB, fGcd, fMax2, fMin2, fInt, gN, gT, gAll, dIsi, fIsi, isTy, refOk, dIsN, dNotN, dIsB, dNotB, isNon, isBl, sz_lt, sz_le, sRaise, sTry, collapse_const, endX, dXf, dXis, dBM, dBM0, tTr, fTr, aStar, sRetN, fAbs, *])
local macro_rules | `(tactic| walk_at "u") => `(tactic| simp [fnF_eq, sSeq, sSet, sRet, sIf, sDrop, sNil, sAsg, sPar, sPut, F.then_nx, F.then_rt, F.then_bk, F.then_ct, F.then_ex, F.then_bad, F.then_ite, R.lift_ok, R.lift_ex, R.lift_bad, R.lift_ite, R.bind_ok, R.bind_ex, R.bind_bad, R.bind_ite, F.fin_nx, F.fin_rt, F.fin_ex, F.fin_bad, F.fin_ite, dVar, dC, bin, un, dAnd, dOr, dNot, tB', tAnd', tOr', tNot', dIf, asB_bl, aNil, aCons, dTup, mkT, dLst, mkL, seqOf, lstOf, fAdd, fPlus, dSl, oSome, oNone, asI, fInT, fStr, fIntT, fFmt, dFmt, dJs, fPart, fStarts, fFind, fIsdig, fIsasc, fMulS, fSub, fLt, fGt, fLe, fGe, fEq, fMod, fNeg, fPow, arity, dCall, dCallY, dCallK, dCallX, dSoSetL, dIsi2, fIsi2, noEx, dCB, fGcd, fMax2, fMin2, fInt, dIsi, fIsi, isTy, refOk, dIsN, dNotN, dIsB, dNotB, isNon, isBl, sz_lt, sz_le, sRaise, sTry, collapse_const, endX, dXf, dXis, dBM, dBM0, tTr, fTr, aStar, sRetN, fAbs, sFor, iAny, iRng1, iEn, *])
local macro_rules | `(tactic| walk_at "t") => `(tactic| simp [fnF_eq, sSeq, sSet, sRet, sIf, sDrop, sNil, sAsg, sPar, sPut, F.then_nx, F.then_rt, F.then_bk, F.then_ct, F.then_ex, F.then_bad, F.then_ite, R.lift_ok, R.lift_ex, R.lift_bad, R.lift_ite, R.bind_ok, R.bind_ex, R.bind_bad, R.bind_ite, F.fin_nx, F.fin_rt, F.fin_ex, F.fin_bad, F.fin_ite, dVar, dC, bin, un, dAnd, dOr, dNot, tB', tAnd', tOr', tNot', dIf, asB_bl, aNil, aCons, dTup, mkT, dLst, mkL, seqOf, lstOf, fAdd, dSl, oSome, oNone, asI, fInT, fStr, fIntT, fFmt, dFmt, dJs, fPart, fStarts, fFind, fIsdig, fIsasc, fMulS, fSub, fLt, fGt, fLe, fGe, fEq, fMod, fNeg, fPow, arity, dCall, dCallY, dCallK, dCallX, dSoSetL, dIsi2, fIsi2, noEx, dCB, fGcd, fMax2, fMin2, fInt, dIsi, fIsi, isTy, refOk, dIsN, dNotN, dIsB, dNotB, isNon, isBl, sz_lt, sz_le, sRaise, sTry, collapse_const, endX, dXf, dXis, dBM, dBM0, tTr, fTr, aStar, sRetN, fAbs, sFor, iAny, iRng1, iEn, *])
local macro_rules | `(tactic| walk_at "w") => `(tactic| simp [fnF_eq, sSeq, sSet, sRet, sIf, sDrop, sNil, sAsg, sPar, sPut, F.then_nx, F.then_rt, F.then_bk, F.then_ct, F.then_ex, F.then_bad, F.then_ite, R.lift_ok, R.lift_ex, R.lift_bad, R.lift_ite, R.bind_ok, R.bind_ex, R.bind_bad, R.bind_ite, F.fin_nx, F.fin_rt, F.fin_ex, F.fin_bad, F.fin_ite, dVar, dC, bin, un, dAnd, dOr, dNot, tB', tAnd', tOr', tNot', dIf, asB_bl, aNil, aCons, dTup, mkT, dLst, mkL, seqOf, lstOf, fAdd, dSl, oSome, oNone, asI, fInT, fStr, fIntT, fFmt, dFmt, dJs, fPart, fStarts, fFind, fIsdig, fIsasc, fMulS, fSub, fLt, fGt, fLe, fGe, fEq, fMod, fNeg, fPow, arity, dCall, dCallY, dCallK, dCallX, dSoSetL, dIsi2, noEx, dCB, fGcd, fMax2, fMin2, fInt, dIsi, dIsN, dNotN, dIsB, dNotB, isNon, isBl, sz_lt, sz_le, sRaise, sTry, collapse_const, endX, dXf, dXis, dBM, dBM0, tTr, fTr, aStar, sRetN, fAbs, sFor, iAny, iRng1, iEn, *])
namespace K02
theorem holds : Holds Flaw := by
  intro ns hl _
  obtain ⟨S0, e0, k0⟩ := box_eq ns hl
  obtain ⟨dn, S1, e1, k1, m1⟩ := pick_gen (ds := [.int 1, .int 2, .int 2, .int 3, .int 3, .int 6]) k0 (by decide) (by decide)
  obtain ⟨n, rfl, hn⟩ : ∃ n : Int, dn = .int n ∧ 1 ≤ n ∧ n ≤ 6 := by
    simp only [List.mem_cons, List.not_mem_nil, or_false] at m1
    rcases m1 with rfl | rfl | rfl | rfl | rfl | rfl <;> exact ⟨_, rfl, by decide, by decide⟩
  obtain ⟨f, S2, e2, k2, f1, f2⟩ := draw_eq (n := 6) k1 (by decide) (by decide)
  obtain ⟨d, S3, r3, e3, k3, v3⟩ : ∃ d S' more, F_law_good [.ref 1, .int f, .int n] S2 = .ok d S' ∧ IsBox S' more ∧ ∀ T, Vd 7 T 3 d := by
    by_cases h4 : f = 4
    · subst h4
      obtain ⟨d, S', more, e, b, v⟩ := good4_eq k2 hn
      exact ⟨d, S', _, e, b, v⟩
    · obtain ⟨d, S', e, b, v⟩ := good_eq (f := f) k2 (by omega) hn
      exact ⟨d, S', _, e, b, v⟩
  obtain ⟨d4, S4, m4, e4, k4, v4⟩ := l1_go (sc := some (.frz (ns.map D.int))) (z4 := none) (z5 := none) k3 (vp_of (v3 S3)) hn
  have er := fRng1_eq (i := 3) (n := 3) (S := S3) rfl (by omega)
  obtain ⟨c, S5, e5, k5, c1, c2⟩ := draw_eq (n := 8) k4 (by decide) (by decide)
  have v5 := v4.keep (box_keep k4 k5)
  have fin : ∀ (ks : Nat) (d : D) (z4 : Option D) (S : Sto), ks ≤ 4 → Vp 9 S (List.replicate ks 1 ++ [9, 9, 9, 4, 3, 3, 2]) d → lT [some (.frz (ns.map D.int)), some (.ref 1), some (.int n), some d, z4, none] S = .rt (.bl true) S := fun ks d z4 S hk v => by
    refine lT_eq v (by decide) (fun l hl => ?_) hn ?_ (le_rep hk (by decide))
    · rcases List.mem_append.mp hl with h | h
      · have := List.eq_of_mem_replicate h
        omega
      · exact (show ∀ l ∈ [9, 9, 9, 4, 3, 3, 2], l ≤ 900 by decide) l h
    · rw [List.length_append, List.length_replicate]
      show ks + 7 ≤ 60
      omega
  by_cases c0 : c = 0
  · subst c0
    obtain ⟨w, S6, e6, k6, w1, w2⟩ := draw_eq (n := 4) k5 (by decide) (by decide)
    have v6 := v5.keep (box_keep k5 k6)
    obtain ⟨q, hq⟩ : ∃ q : Nat, 1 + w = (q : Int) := ⟨(1 + w).toNat, by omega⟩
    have er6 := fRng1_eq (i := 1 + w) (n := q) (S := S6) hq (by omega)
    obtain ⟨d7, z7, S7, e7, k7, v7⟩ := l2_go (n := n) (sc := some (.frz (ns.map D.int))) (z5 := none) (rngD 0 q) _ d4 (some (.int 2)) S6 k6 v6
    have lq : (rngD 0 q).length = q := by unfold rngD; simp
    rw [lq] at v7
    have e8 := fin q d7 z7 S7 (by omega) v7
    refine ⟨S7, ?_⟩
    rw [law_def]
    clear k0 k1 k2 k3 k4 k5 k6 k7 v3 v4 v5 v6 v7 fin hl hn f1 f2 c1 c2 w1 w2 hq lq m1
    generalize l1B = l1 at *
    generalize l2B = l2 at *
    generalize lT = lt at *
    generalize gN 4 = g4 at *
    generalize rngD 0 3 = RA at *
    generalize rngD 0 q = RB at *
    generalize (D.frz (ns.map D.int)) = sc at *
    simp [fnF_eq, sSeq, sSet, sFor, sIf, sNil, iRng1, tB', dCall, arity, aCons, aNil, dVar, dC, dLst, mkL, sz_le, asB_bl, bin, fEq, fPlus, R.bind_ok, R.lift_ok, F.then_nx, F.fin_rt, e0, e1, e2, e3, er, e4, e5, e6, er6, e7, e8]
  · have e8 := fin 0 d4 (some (.int 2)) S5 (by omega) v5
    refine ⟨S5, ?_⟩
    rw [law_def]
    clear k0 k1 k2 k3 k4 k5 v3 v4 v5 fin hl hn f1 f2 c1 c2 m1
    generalize l1B = l1 at *
    generalize l2B = l2 at *
    generalize lT = lt at *
    generalize gN 4 = g4 at *
    generalize rngD 0 3 = RA at *
    generalize (D.frz (ns.map D.int)) = sc at *
    simp [fnF_eq, sSeq, sSet, sFor, sIf, sNil, iRng1, tB', dCall, arity, aCons, aNil, dVar, dC, dLst, mkL, sz_le, asB_bl, bin, fEq, fPlus, R.bind_ok, R.lift_ok, F.then_nx, F.fin_rt, e0, e1, e2, e3, er, e4, e5, c0, e8]
end K02
end

section
set_option Elab.async false
set_option linter.all false
set_option maxRecDepth 100000
set_option maxHeartbeats 4000000
namespace K02
open PySem PySem.Spec PyProof.Rows L2 Z
/-! ### what the top leaves -/
structure Tx (K : PySem.W.Frag) (mg : Str → Option Value) where
  b_all : mg "all" = none
  b_bool : mg "bool" = none
  b_gcd : mg "gcd" = some (.builtin "math.gcd")
  b_int : mg "int" = none
  b_isinstance : mg "isinstance" = none
  b_len : mg "len" = none
  b_list : mg "list" = none
  b_max : mg "max" = none
  b_min : mg "min" = none
  b_range : mg "range" = none
  b_repr : mg "repr" = none
  b_tuple : mg "tuple" = none
  a_is_whole : Addr
  d_is_whole : FuncData
  g_is_whole : mg "is_whole" = some (.ref a_is_whole)
  u_is_whole : Fun K "is_whole" "is_whole" sis_whole a_is_whole d_is_whole
  k_is_whole : PySem.W.keepIn K (.ref a_is_whole) = true
  a_is_tuple_of : Addr
  d_is_tuple_of : FuncData
  g_is_tuple_of : mg "is_tuple_of" = some (.ref a_is_tuple_of)
  u_is_tuple_of : Fun K "is_tuple_of" "is_tuple_of" sis_tuple_of a_is_tuple_of d_is_tuple_of
  k_is_tuple_of : PySem.W.keepIn K (.ref a_is_tuple_of) = true
  a_is_moment : Addr
  d_is_moment : FuncData
  g_is_moment : mg "is_moment" = some (.ref a_is_moment)
  u_is_moment : Fun K "is_moment" "is_moment" sis_moment a_is_moment d_is_moment
  k_is_moment : PySem.W.keepIn K (.ref a_is_moment) = true
  a_is_edge : Addr
  d_is_edge : FuncData
  g_is_edge : mg "is_edge" = some (.ref a_is_edge)
  u_is_edge : Fun K "is_edge" "is_edge" sis_edge a_is_edge d_is_edge
  k_is_edge : PySem.W.keepIn K (.ref a_is_edge) = true
  a_is_span : Addr
  d_is_span : FuncData
  g_is_span : mg "is_span" = some (.ref a_is_span)
  u_is_span : Fun K "is_span" "is_span" sis_span a_is_span d_is_span
  k_is_span : PySem.W.keepIn K (.ref a_is_span) = true
  a_has_moment : Addr
  d_has_moment : FuncData
  g_has_moment : mg "has_moment" = some (.ref a_has_moment)
  u_has_moment : Fun K "has_moment" "has_moment" shas_moment a_has_moment d_has_moment
  k_has_moment : PySem.W.keepIn K (.ref a_has_moment) = true
  a_is_cap : Addr
  d_is_cap : FuncData
  g_is_cap : mg "is_cap" = some (.ref a_is_cap)
  u_is_cap : Fun K "is_cap" "is_cap" sis_cap a_is_cap d_is_cap
  k_is_cap : PySem.W.keepIn K (.ref a_is_cap) = true
  a_is_table : Addr
  d_is_table : FuncData
  g_is_table : mg "is_table" = some (.ref a_is_table)
  u_is_table : Fun K "is_table" "is_table" sis_table a_is_table d_is_table
  k_is_table : PySem.W.keepIn K (.ref a_is_table) = true
  tc_is_table : Addr
  tp_is_table : Addr
  hc_is_table : d_is_table.code = .ref tc_is_table
  tm_is_table : tp_is_table ∈ tabs
  a_is_table_row : Addr
  d_is_table_row : FuncData
  g_is_table_row : mg "is_table_row" = some (.ref a_is_table_row)
  u_is_table_row : Fun K "is_table_row" "is_table_row" sis_table_row a_is_table_row d_is_table_row
  k_is_table_row : PySem.W.keepIn K (.ref a_is_table_row) = true
  tc_is_table_row : Addr
  tp_is_table_row : Addr
  hc_is_table_row : d_is_table_row.code = .ref tc_is_table_row
  tm_is_table_row : tp_is_table_row ∈ tabs
  a_is_readings : Addr
  d_is_readings : FuncData
  g_is_readings : mg "is_readings" = some (.ref a_is_readings)
  u_is_readings : Fun K "is_readings" "is_readings" sis_readings a_is_readings d_is_readings
  k_is_readings : PySem.W.keepIn K (.ref a_is_readings) = true
  tc_is_readings : Addr
  tp_is_readings : Addr
  hc_is_readings : d_is_readings.code = .ref tc_is_readings
  tm_is_readings : tp_is_readings ∈ tabs
  a__law_box : Addr
  d__law_box : FuncData
  g__law_box : mg "_law_box" = some (.ref a__law_box)
  u__law_box : Fun K "_law_box" "_law_box" s_law_box a__law_box d__law_box
  k__law_box : PySem.W.keepIn K (.ref a__law_box) = true
  a__law_draw : Addr
  d__law_draw : FuncData
  g__law_draw : mg "_law_draw" = some (.ref a__law_draw)
  u__law_draw : Fun K "_law_draw" "_law_draw" s_law_draw a__law_draw d__law_draw
  k__law_draw : PySem.W.keepIn K (.ref a__law_draw) = true
  a__law_pick : Addr
  d__law_pick : FuncData
  g__law_pick : mg "_law_pick" = some (.ref a__law_pick)
  u__law_pick : Fun K "_law_pick" "_law_pick" s_law_pick a__law_pick d__law_pick
  k__law_pick : PySem.W.keepIn K (.ref a__law_pick) = true
  a__law_gcd : Addr
  d__law_gcd : FuncData
  g__law_gcd : mg "_law_gcd" = some (.ref a__law_gcd)
  u__law_gcd : Fun K "_law_gcd" "_law_gcd" s_law_gcd a__law_gcd d__law_gcd
  k__law_gcd : PySem.W.keepIn K (.ref a__law_gcd) = true
  a__law_wide : Addr
  d__law_wide : FuncData
  g__law_wide : mg "_law_wide" = some (.ref a__law_wide)
  u__law_wide : Fun K "_law_wide" "_law_wide" s_law_wide a__law_wide d__law_wide
  k__law_wide : PySem.W.keepIn K (.ref a__law_wide) = true
  a__law_whole : Addr
  d__law_whole : FuncData
  g__law_whole : mg "_law_whole" = some (.ref a__law_whole)
  u__law_whole : Fun K "_law_whole" "_law_whole" s_law_whole a__law_whole d__law_whole
  k__law_whole : PySem.W.keepIn K (.ref a__law_whole) = true
  a__law_moment : Addr
  d__law_moment : FuncData
  g__law_moment : mg "_law_moment" = some (.ref a__law_moment)
  u__law_moment : Fun K "_law_moment" "_law_moment" s_law_moment a__law_moment d__law_moment
  k__law_moment : PySem.W.keepIn K (.ref a__law_moment) = true
  a__law_edge : Addr
  d__law_edge : FuncData
  g__law_edge : mg "_law_edge" = some (.ref a__law_edge)
  u__law_edge : Fun K "_law_edge" "_law_edge" s_law_edge a__law_edge d__law_edge
  k__law_edge : PySem.W.keepIn K (.ref a__law_edge) = true
  a__law_cap : Addr
  d__law_cap : FuncData
  g__law_cap : mg "_law_cap" = some (.ref a__law_cap)
  u__law_cap : Fun K "_law_cap" "_law_cap" s_law_cap a__law_cap d__law_cap
  k__law_cap : PySem.W.keepIn K (.ref a__law_cap) = true
  a__law_span : Addr
  d__law_span : FuncData
  g__law_span : mg "_law_span" = some (.ref a__law_span)
  u__law_span : Fun K "_law_span" "_law_span" s_law_span a__law_span d__law_span
  k__law_span : PySem.W.keepIn K (.ref a__law_span) = true
  a__law_row : Addr
  d__law_row : FuncData
  g__law_row : mg "_law_row" = some (.ref a__law_row)
  u__law_row : Fun K "_law_row" "_law_row" s_law_row a__law_row d__law_row
  k__law_row : PySem.W.keepIn K (.ref a__law_row) = true
  a__law_table : Addr
  d__law_table : FuncData
  g__law_table : mg "_law_table" = some (.ref a__law_table)
  u__law_table : Fun K "_law_table" "_law_table" s_law_table a__law_table d__law_table
  k__law_table : PySem.W.keepIn K (.ref a__law_table) = true
  a__law_readings : Addr
  d__law_readings : FuncData
  g__law_readings : mg "_law_readings" = some (.ref a__law_readings)
  u__law_readings : Fun K "_law_readings" "_law_readings" s_law_readings a__law_readings d__law_readings
  k__law_readings : PySem.W.keepIn K (.ref a__law_readings) = true
  a__law_good_moment : Addr
  d__law_good_moment : FuncData
  g__law_good_moment : mg "_law_good_moment" = some (.ref a__law_good_moment)
  u__law_good_moment : Fun K "_law_good_moment" "_law_good_moment" s_law_good_moment a__law_good_moment d__law_good_moment
  k__law_good_moment : PySem.W.keepIn K (.ref a__law_good_moment) = true
  a__law_good_span : Addr
  d__law_good_span : FuncData
  g__law_good_span : mg "_law_good_span" = some (.ref a__law_good_span)
  u__law_good_span : Fun K "_law_good_span" "_law_good_span" s_law_good_span a__law_good_span d__law_good_span
  k__law_good_span : PySem.W.keepIn K (.ref a__law_good_span) = true
  a__law_good_cap : Addr
  d__law_good_cap : FuncData
  g__law_good_cap : mg "_law_good_cap" = some (.ref a__law_good_cap)
  u__law_good_cap : Fun K "_law_good_cap" "_law_good_cap" s_law_good_cap a__law_good_cap d__law_good_cap
  k__law_good_cap : PySem.W.keepIn K (.ref a__law_good_cap) = true
  a__law_good : Addr
  d__law_good : FuncData
  g__law_good : mg "_law_good" = some (.ref a__law_good)
  u__law_good : Fun K "_law_good" "_law_good" s_law_good a__law_good d__law_good
  k__law_good : PySem.W.keepIn K (.ref a__law_good) = true
  a__law_odd : Addr
  d__law_odd : FuncData
  g__law_odd : mg "_law_odd" = some (.ref a__law_odd)
  u__law_odd : Fun K "_law_odd" "_law_odd" s_law_odd a__law_odd d__law_odd
  k__law_odd : PySem.W.keepIn K (.ref a__law_odd) = true
  a__law_bent : Addr
  d__law_bent : FuncData
  g__law_bent : mg "_law_bent" = some (.ref a__law_bent)
  u__law_bent : Fun K "_law_bent" "_law_bent" s_law_bent a__law_bent d__law_bent
  k__law_bent : PySem.W.keepIn K (.ref a__law_bent) = true
  a__law_told : Addr
  d__law_told : FuncData
  g__law_told : mg "_law_told" = some (.ref a__law_told)
  u__law_told : Fun K "_law_told" "_law_told" s_law_told a__law_told d__law_told
  k__law_told : PySem.W.keepIn K (.ref a__law_told) = true
  a__law_judged : Addr
  d__law_judged : FuncData
  g__law_judged : mg "_law_judged" = some (.ref a__law_judged)
  u__law_judged : Fun K "_law_judged" "_law_judged" s_law_judged a__law_judged d__law_judged
  k__law_judged : PySem.W.keepIn K (.ref a__law_judged) = true
  a_law : Addr
  d_law : FuncData
  g_law : mg "law" = some (.ref a_law)
  u_law : Fun K "law" "law" slaw a_law d_law
  k_law : PySem.W.keepIn K (.ref a_law) = true
structure Tb {K : PySem.W.Frag} {mg : Str → Option Value} (T : Tx K mg) (base : Heap) : Prop where
  tb_is_readings : GxR.TabB base mg T.tc_is_readings T.tp_is_readings
  tb_is_table : GxR.TabB base mg T.tc_is_table T.tp_is_table
  tb_is_table_row : GxR.TabB base mg T.tc_is_table_row T.tp_is_table_row
section
variable {P : Program} {w : World} {K : PySem.W.Frag} {mg : Str → Option Value} {base : Heap}
theorem bd_is_whole (T : Tx K mg) : Binds K T.d_is_whole ["value"] [] := T.u_is_whole.binds fun _ _ _ _ _ _ us hl => match us, hl with | [_], _ => rfl
theorem bd_is_tuple_of (T : Tx K mg) : Binds K T.d_is_tuple_of ["size", "value"] [] := T.u_is_tuple_of.binds fun _ _ _ _ _ _ us hl => match us, hl with | [_, _], _ => rfl
theorem bd_is_moment (T : Tx K mg) : Binds K T.d_is_moment ["value"] [] := T.u_is_moment.binds fun _ _ _ _ _ _ us hl => match us, hl with | [_], _ => rfl
theorem bd_is_edge (T : Tx K mg) : Binds K T.d_is_edge ["value"] [] := T.u_is_edge.binds fun _ _ _ _ _ _ us hl => match us, hl with | [_], _ => rfl
theorem bd_is_span (T : Tx K mg) : Binds K T.d_is_span ["value"] [] := T.u_is_span.binds fun _ _ _ _ _ _ us hl => match us, hl with | [_], _ => rfl
theorem bd_has_moment (T : Tx K mg) : Binds K T.d_has_moment ["low", "high"] [] := T.u_has_moment.binds fun _ _ _ _ _ _ us hl => match us, hl with | [_, _], _ => rfl
theorem bd_is_cap (T : Tx K mg) : Binds K T.d_is_cap ["value"] [] := T.u_is_cap.binds fun _ _ _ _ _ _ us hl => match us, hl with | [_], _ => rfl
theorem bd_is_table (T : Tx K mg) : Binds K T.d_is_table ["value"] [] := T.u_is_table.binds fun _ _ _ _ _ _ us hl => match us, hl with | [_], _ => rfl
theorem bd_is_table_row (T : Tx K mg) : Binds K T.d_is_table_row ["size", "value"] [] := T.u_is_table_row.binds fun _ _ _ _ _ _ us hl => match us, hl with | [_, _], _ => rfl
theorem bd_is_readings (T : Tx K mg) : Binds K T.d_is_readings ["clocks", "value"] [] := T.u_is_readings.binds fun _ _ _ _ _ _ us hl => match us, hl with | [_, _], _ => rfl
theorem bd__law_box (T : Tx K mg) : Binds K T.d__law_box ["script"] [] := T.u__law_box.binds fun _ _ _ _ _ _ us hl => match us, hl with | [_], _ => rfl
theorem bd__law_draw (T : Tx K mg) : Binds K T.d__law_draw ["box", "size"] [] := T.u__law_draw.binds fun _ _ _ _ _ _ us hl => match us, hl with | [_, _], _ => rfl
theorem bd__law_pick (T : Tx K mg) : Binds K T.d__law_pick ["box", "row"] [] := T.u__law_pick.binds fun _ _ _ _ _ _ us hl => match us, hl with | [_, _], _ => rfl
theorem bd__law_gcd (T : Tx K mg) : Binds K T.d__law_gcd ["first", "second"] [] := T.u__law_gcd.binds fun _ _ _ _ _ _ us hl => match us, hl with | [_, _], _ => rfl
theorem bd__law_wide (T : Tx K mg) : Binds K T.d__law_wide ["box"] [] := T.u__law_wide.binds fun _ _ _ _ _ _ us hl => match us, hl with | [_], _ => rfl
theorem bd__law_whole (T : Tx K mg) : Binds K T.d__law_whole ["one"] [] := T.u__law_whole.binds fun _ _ _ _ _ _ us hl => match us, hl with | [_], _ => rfl
theorem bd__law_moment (T : Tx K mg) : Binds K T.d__law_moment ["one"] [] := T.u__law_moment.binds fun _ _ _ _ _ _ us hl => match us, hl with | [_], _ => rfl
theorem bd__law_edge (T : Tx K mg) : Binds K T.d__law_edge ["one"] [] := T.u__law_edge.binds fun _ _ _ _ _ _ us hl => match us, hl with | [_], _ => rfl
theorem bd__law_cap (T : Tx K mg) : Binds K T.d__law_cap ["one"] [] := T.u__law_cap.binds fun _ _ _ _ _ _ us hl => match us, hl with | [_], _ => rfl
theorem bd__law_span (T : Tx K mg) : Binds K T.d__law_span ["one"] [] := T.u__law_span.binds fun _ _ _ _ _ _ us hl => match us, hl with | [_], _ => rfl
theorem bd__law_row (T : Tx K mg) : Binds K T.d__law_row ["one", "size"] [] := T.u__law_row.binds fun _ _ _ _ _ _ us hl => match us, hl with | [_, _], _ => rfl
theorem bd__law_table (T : Tx K mg) : Binds K T.d__law_table ["one"] [] := T.u__law_table.binds fun _ _ _ _ _ _ us hl => match us, hl with | [_], _ => rfl
theorem bd__law_readings (T : Tx K mg) : Binds K T.d__law_readings ["clocks", "one"] [] := T.u__law_readings.binds fun _ _ _ _ _ _ us hl => match us, hl with | [_, _], _ => rfl
theorem bd__law_good_moment (T : Tx K mg) : Binds K T.d__law_good_moment ["box"] [] := T.u__law_good_moment.binds fun _ _ _ _ _ _ us hl => match us, hl with | [_], _ => rfl
theorem bd__law_good_span (T : Tx K mg) : Binds K T.d__law_good_span ["box"] [] := T.u__law_good_span.binds fun _ _ _ _ _ _ us hl => match us, hl with | [_], _ => rfl
theorem bd__law_good_cap (T : Tx K mg) : Binds K T.d__law_good_cap ["box"] [] := T.u__law_good_cap.binds fun _ _ _ _ _ _ us hl => match us, hl with | [_], _ => rfl
theorem bd__law_good (T : Tx K mg) : Binds K T.d__law_good ["box", "form", "clocks"] [] := T.u__law_good.binds fun _ _ _ _ _ _ us hl => match us, hl with | [_, _, _], _ => rfl
theorem bd__law_odd (T : Tx K mg) : Binds K T.d__law_odd ["box"] [] := T.u__law_odd.binds fun _ _ _ _ _ _ us hl => match us, hl with | [_], _ => rfl
theorem bd__law_bent (T : Tx K mg) : Binds K T.d__law_bent ["box", "value"] [] := T.u__law_bent.binds fun _ _ _ _ _ _ us hl => match us, hl with | [_, _], _ => rfl
theorem bd__law_told (T : Tx K mg) : Binds K T.d__law_told ["actual", "due"] [] := T.u__law_told.binds fun _ _ _ _ _ _ us hl => match us, hl with | [_, _], _ => rfl
theorem bd__law_judged (T : Tx K mg) : Binds K T.d__law_judged ["clocks", "value"] [] := T.u__law_judged.binds fun _ _ _ _ _ _ us hl => match us, hl with | [_, _], _ => rfl
theorem bd_law (T : Tx K mg) : Binds K T.d_law ["script"] [] := T.u_law.binds fun _ _ _ _ _ _ us hl => match us, hl with | [_], _ => rfl
theorem ok_is_whole (T : Tx K mg) (U : Tb T base) : FnZ P w K mg base 1 T.a_is_whole T.d_is_whole ["value"] Fis_whole := by
  exact fn_ok T.u_is_whole (k := 0) scis_whole (by decide) fun cdv A outer s H E hr tk =>
    ss_one (s_ret (e_and (e_isi .int rfl (by rfl) T.b_isinstance (by rfl) T.b_int (ev 0)) (e_one (e_not (e_isi .bool rfl (by rfl) T.b_isinstance (by rfl) T.b_bool (ev 0))))))
theorem ok_is_tuple_of (T : Tx K mg) (U : Tb T base) : FnZ P w K mg base 1 T.a_is_tuple_of T.d_is_tuple_of ["size", "value"] Fis_tuple_of := by
  exact fn_ok T.u_is_tuple_of (k := 0) scis_tuple_of (by decide) fun cdv A outer s H E hr tk =>
    ss_one (s_ret (e_and (e_isi .tup rfl (by rfl) T.b_isinstance (by rfl) T.b_tuple (ev 1)) (e_one (e_cmp (oEq hr.units) sEq (e_cb call_len sLen (by rfl) T.b_len (by decide +kernel) (a_cons (ev 1) (a_nil))) (ev 0)))))
theorem ok_is_moment (T : Tx K mg) (U : Tb T base) : FnZ P w K mg base 2 T.a_is_moment T.d_is_moment ["value"] Fis_moment := by
  have G_is_tuple_of := ok_is_tuple_of (P := P) (w := w) (base := base) T U
  have G_is_whole := ok_is_whole (P := P) (w := w) (base := base) T U
  exact fn_ok T.u_is_moment (k := 1) scis_moment (by decide) fun cdv A outer s H E hr tk =>
    ss_cons (s_if (t_not (t_B (e_call G_is_tuple_of (hr.mono (by omega)) T.g_is_tuple_of T.k_is_tuple_of (bd_is_tuple_of T) .nil .nil tk (a_cons (ec_int) (a_cons (ev 0) (a_nil)))))) (ss_one (s_ret (ec_bl))) (ss_nil)) (ss_cons (s_asg (ev 0) (g_t rfl (gs_cons (g_n 1 scis_moment.nd) (gs_cons (g_n 2 scis_moment.nd) (gs_nil))))) (ss_cons (s_if (t_not (PW.pt (w_and (t_B (e_call G_is_whole (hr.mono (by omega)) T.g_is_whole T.k_is_whole (bd_is_whole T) .nil .nil tk (a_cons (ev 1) (a_nil)))) (w_and1 (t_B (e_call G_is_whole (hr.mono (by omega)) T.g_is_whole T.k_is_whole (bd_is_whole T) .nil .nil tk (a_cons (ev 2) (a_nil)))))))) (ss_one (s_ret (ec_bl))) (ss_nil)) (ss_one (s_ret (e_and (e_cmp op_ge sGe (ev 1) (ec_int)) (e_and (e_cmp op_ge sGe (ev 2) (ec_int)) (e_one (e_cmp (oEq hr.units) sEq (e_cf cr_gcd sGcd (by rfl) T.b_gcd (a_cons (ev 1) (a_cons (ev 2) (a_nil)))) (ec_int)))))))))
theorem ok_is_edge (T : Tx K mg) (U : Tb T base) : FnZ P w K mg base 2 T.a_is_edge T.d_is_edge ["value"] Fis_edge := by
  have G_is_tuple_of := ok_is_tuple_of (P := P) (w := w) (base := base) T U
  have G_is_whole := ok_is_whole (P := P) (w := w) (base := base) T U
  exact fn_ok T.u_is_edge (k := 1) scis_edge (by decide) fun cdv A outer s H E hr tk =>
    ss_cons (s_if (t_not (t_B (e_call G_is_tuple_of (hr.mono (by omega)) T.g_is_tuple_of T.k_is_tuple_of (bd_is_tuple_of T) .nil .nil tk (a_cons (ec_int) (a_cons (ev 0) (a_nil)))))) (ss_one (s_ret (ec_bl))) (ss_nil)) (ss_cons (s_asg (ev 0) (g_t rfl (gs_cons (g_n 1 scis_edge.nd) (gs_cons (g_n 2 scis_edge.nd) (gs_nil))))) (ss_one (s_ret (e_and (e_call G_is_whole (hr.mono (by omega)) T.g_is_whole T.k_is_whole (bd_is_whole T) .nil .nil tk (a_cons (ev 1) (a_nil))) (e_and (e_call G_is_whole (hr.mono (by omega)) T.g_is_whole T.k_is_whole (bd_is_whole T) .nil .nil tk (a_cons (ev 2) (a_nil))) (e_one (e_cmp oInT sInT (ev 2) (e_tup (a_cons (ec_int) (a_cons (ec_int) (a_nil)))) (by rfl))))))))
theorem ok_has_moment (T : Tx K mg) (U : Tb T base) : FnZ P w K mg base 1 T.a_has_moment T.d_has_moment ["low", "high"] Fhas_moment := by
  exact fn_ok T.u_has_moment (k := 0) schas_moment (by decide) fun cdv A outer s H E hr tk =>
    ss_cons (s_if (PW.pt (w_or (t_isN (ev 1)) (w_or1 (t_cmp op_gt sGt (e_ix ix_seq sIx (ev 1) (ec_int)) (e_ix ix_seq sIx (ev 0) (ec_int)))))) (ss_one (s_ret (ec_bl))) (ss_nil)) (ss_one (s_ret (e_and (e_cmp (oEq hr.units) sEq (e_ix ix_seq sIx (ev 1) (ec_int)) (e_ix ix_seq sIx (ev 0) (ec_int))) (e_and (e_cmp (oEq hr.units) sEq (e_ix ix_seq sIx (ev 1) (ec_int)) (ec_int)) (e_one (e_cmp (oEq hr.units) sEq (e_ix ix_seq sIx (ev 0) (ec_int)) (ec_int)))))))
theorem ok_is_span (T : Tx K mg) (U : Tb T base) : FnZ P w K mg base 3 T.a_is_span T.d_is_span ["value"] Fis_span := by
  have G_has_moment := ok_has_moment (P := P) (w := w) (base := base) T U
  have G_is_edge := ok_is_edge (P := P) (w := w) (base := base) T U
  have G_is_tuple_of := ok_is_tuple_of (P := P) (w := w) (base := base) T U
  exact fn_ok T.u_is_span (k := 2) scis_span (by decide) fun cdv A outer s H E hr tk =>
    ss_cons (s_if (t_not (t_B (e_call G_is_tuple_of (hr.mono (by omega)) T.g_is_tuple_of T.k_is_tuple_of (bd_is_tuple_of T) .nil .nil tk (a_cons (ec_int) (a_cons (ev 0) (a_nil)))))) (ss_one (s_ret (ec_bl))) (ss_nil)) (ss_cons (s_asg (ev 0) (g_t rfl (gs_cons (g_n 1 scis_span.nd) (gs_cons (g_n 2 scis_span.nd) (gs_nil))))) (ss_cons (s_if (t_not (PW.pt (w_and (t_B (e_call G_is_edge (hr.mono (by omega)) T.g_is_edge T.k_is_edge (bd_is_edge T) .nil .nil tk (a_cons (ev 1) (a_nil)))) (w_and1 (t_cmp op_ge sGe (e_ix ix_seq sIx (ev 1) (ec_int)) (ec_int)))))) (ss_one (s_ret (ec_bl))) (ss_nil)) (ss_one (s_ret (e_or (e_isN (ev 2)) (e_one (e_and (e_call G_is_edge (hr.mono (by omega)) T.g_is_edge T.k_is_edge (bd_is_edge T) .nil .nil tk (a_cons (ev 2) (a_nil))) (e_one (e_call G_has_moment (hr.mono (by omega)) T.g_has_moment T.k_has_moment (bd_has_moment T) .nil .nil tk (a_cons (ev 1) (a_cons (ev 2) (a_nil))))))))))))
theorem ok_is_cap (T : Tx K mg) (U : Tb T base) : FnZ P w K mg base 3 T.a_is_cap T.d_is_cap ["value"] Fis_cap := by
  have G_is_edge := ok_is_edge (P := P) (w := w) (base := base) T U
  exact fn_ok T.u_is_cap (k := 2) scis_cap (by decide) fun cdv A outer s H E hr tk =>
    ss_one (s_ret (e_or (e_isN (ev 0)) (e_one (e_call G_is_edge (hr.mono (by omega)) T.g_is_edge T.k_is_edge (bd_is_edge T) .nil .nil tk (a_cons (ev 0) (a_nil))))))
theorem ok_is_table_row (T : Tx K mg) (U : Tb T base) : FnZ P w K mg base 5 T.a_is_table_row T.d_is_table_row ["size", "value"] Fis_table_row := by
  have G_is_cap := ok_is_cap (P := P) (w := w) (base := base) T U
  have G_is_tuple_of := ok_is_tuple_of (P := P) (w := w) (base := base) T U
  exact fn_okT T.u_is_table_row (k := 4) scis_table_row (by decide) fun cdv A outer s H E hcv hr tk =>
    ss_one (s_ret (e_and (e_call G_is_tuple_of (hr.mono (by omega)) T.g_is_tuple_of T.k_is_tuple_of (bd_is_tuple_of T) .nil .nil tk (a_cons (ev 0) (a_cons (ev 1) (a_nil)))) (e_one (e_allG (own := [("cap", 2)]) hr T.b_all rfl scis_table_row.nd U.tb_is_table_row T.tm_is_table_row (hcv.symm.trans T.hc_is_table_row) (i_any (ev 1)) (blkOk_by (N := Nis_table_row) (sc := defScope sis_table_row) (by decide +kernel)) (by decide +kernel) (fun _ _ _ _ _ _ _ => by exact g_n 2 scis_table_row.nd) (fun _ _ _ _ _ _ _ => gen_inT (k := 3) hr (by omega) fun hr => by exact ts_nil) (fun _ _ _ _ _ _ _ => gen_inE (k := 3) hr (by omega) fun hr => by exact e_call G_is_cap (hr.mono (by omega)) T.g_is_cap T.k_is_cap (bd_is_cap T) .nil .nil takes0N (a_cons (ev 2) (a_nil))) (by decide)))))
theorem ok_is_table (T : Tx K mg) (U : Tb T base) : FnZ P w K mg base 7 T.a_is_table T.d_is_table ["value"] Fis_table := by
  have G_is_table_row := ok_is_table_row (P := P) (w := w) (base := base) T U
  exact fn_okT T.u_is_table (k := 6) scis_table (by decide) fun cdv A outer s H E hcv hr tk =>
    ss_cons (s_if (t_not (PW.pt (w_and (t_B (e_isi .tup rfl (by rfl) T.b_isinstance (by rfl) T.b_tuple (ev 0))) (w_and1 (t_cmp op_ge sGe (e_cb call_len sLen (by rfl) T.b_len (by decide +kernel) (a_cons (ev 0) (a_nil))) (ec_int)))))) (ss_one (s_ret (ec_bl))) (ss_nil)) (ss_one (s_ret (e_allG (own := [("row", 1)]) hr T.b_all rfl scis_table.nd U.tb_is_table T.tm_is_table (hcv.symm.trans T.hc_is_table) (i_any (ev 0)) (blkOk_by (N := Nis_table) (sc := defScope sis_table) (by decide +kernel)) (by decide +kernel) (fun _ _ _ _ _ _ _ => by exact g_n 1 scis_table.nd) (fun _ _ _ _ _ _ _ => gen_inT (k := 5) hr (by omega) fun hr => by exact ts_nil) (fun _ _ _ _ _ _ _ => gen_inE (k := 5) hr (by omega) fun hr => by exact e_call G_is_table_row (hr.mono (by omega)) T.g_is_table_row T.k_is_table_row (bd_is_table_row T) .nil .nil takes0N (a_cons (e_cb call_len sLen (by rfl) T.b_len (by decide +kernel) (a_cons (ev 0) (a_nil))) (a_cons (ev 1) (a_nil)))) (by decide))))
theorem ok_is_readings (T : Tx K mg) (U : Tb T base) : FnZ P w K mg base 4 T.a_is_readings T.d_is_readings ["clocks", "value"] Fis_readings := by
  have G_is_moment := ok_is_moment (P := P) (w := w) (base := base) T U
  have G_is_tuple_of := ok_is_tuple_of (P := P) (w := w) (base := base) T U
  exact fn_okT T.u_is_readings (k := 3) scis_readings (by decide) fun cdv A outer s H E hcv hr tk =>
    ss_one (s_ret (e_and (e_call G_is_tuple_of (hr.mono (by omega)) T.g_is_tuple_of T.k_is_tuple_of (bd_is_tuple_of T) .nil .nil tk (a_cons (ev 0) (a_cons (ev 1) (a_nil)))) (e_one (e_allG (own := [("reading", 2)]) hr T.b_all rfl scis_readings.nd U.tb_is_readings T.tm_is_readings (hcv.symm.trans T.hc_is_readings) (i_any (ev 1)) (blkOk_by (N := Nis_readings) (sc := defScope sis_readings) (by decide +kernel)) (by decide +kernel) (fun _ _ _ _ _ _ _ => by exact g_n 2 scis_readings.nd) (fun _ _ _ _ _ _ _ => gen_inT (k := 2) hr (by omega) fun hr => by exact ts_nil) (fun _ _ _ _ _ _ _ => gen_inE (k := 2) hr (by omega) fun hr => by exact e_call G_is_moment (hr.mono (by omega)) T.g_is_moment T.k_is_moment (bd_is_moment T) .nil .nil takes0N (a_cons (ev 2) (a_nil))) (by decide)))))
theorem ok__law_box (T : Tx K mg) (U : Tb T base) : FnZ P w K mg base 1 T.a__law_box T.d__law_box ["script"] F_law_box := by
  exact fn_ok T.u__law_box (k := 0) sc_law_box (by decide) fun cdv A outer s H E hr tk =>
    ss_cons (s_set (i := 1) sc_law_box.nd (e_lst true (a_nil))) (ss_cons (s_set (i := 2) sc_law_box.nd (e_op oPlus sPlus (ec_int) (e_cb call_len sLen (by rfl) T.b_len (by decide +kernel) (a_cons (e_sl false (ev 0) (o_none) (o_some (ec_int))) (a_nil))))) (ss_cons (s_for rfl (i_any (e_sl false (ev 0) (o_none) (o_some (ec_int)))) (g_n 3 sc_law_box.nd) (ss_one (s_if (t_cmp op_ge sGe (ev 3) (e_op op_pow sPow (ec_int) (ec_int))) (ss_one (s_expr (e_bm .list PySem.F.plainAttrs_list PySem.F.slot_list_append PySem.F.type_list_append mt_append sApp (ev 1) (a_cons (ev 3) (a_nil))))) (ss_one (s_set (i := 2) sc_law_box.nd (e_op op_mod sMod (e_ct cr_intT sIntT (by rfl) T.b_int (by decide +kernel) (a_cons (e_op oPlus sPlus (e_op oPlus sPlus (e_op oMul sMul (ev 2) (ec_int)) (e_op oMul sMul (ev 3) (ec_int))) (ec_int)) (a_nil))) (ec_int)))))) (passes_of rfl)) (ss_cons (s_expr (e_bm0 .list PySem.F.plainAttrs_list PySem.F.slot_list_reverse PySem.F.type_list_reverse mt_reverse sRevM (ev 1))) (ss_one (s_ret (e_lst true (a_cons (ec_int) (a_cons (ev 1) (a_cons (ev 2) (a_cons (ec_int) (a_nil)))))))))))
theorem ok__law_draw (T : Tx K mg) (U : Tb T base) : FnZ P w K mg base 1 T.a__law_draw T.d__law_draw ["box", "size"] F_law_draw := by
  exact fn_ok T.u__law_draw (k := 0) sc_law_draw (by decide) fun cdv A outer s H E hr tk =>
    ss_cons (s_if (PW.pt (w_and (t_cmp op_lt sLt (e_ix ix_seq sIx (ev 0) (ec_int)) (ec_int)) (w_and1 (t_cmp (oNe hr.units) sNe (e_ix ix_seq sIx (ev 0) (ec_int)) (e_lst false (a_nil)))))) (ss_one (s_put (pg_sub (ev 0) (ec_int) set_list) (e_bm0 .list PySem.F.plainAttrs_list PySem.F.slot_list_pop PySem.F.type_list_pop mt_pop sPop (e_ix ix_seq sIx (ev 0) (ec_int))) rfl)) (ss_nil)) (ss_cons (s_if (t_cmp op_gt sGt (e_ix ix_seq sIx (ev 0) (ec_int)) (ec_int)) (ss_cons (s_set (i := 2) sc_law_draw.nd (e_op op_mod sMod (e_ct cr_intT sIntT (by rfl) T.b_int (by decide +kernel) (a_cons (e_ix ix_seq sIx (ev 0) (ec_int)) (a_nil))) (ev 1))) (ss_cons (s_put (pg_sub (ev 0) (ec_int) set_list) (e_op op_fdivW sDiv (e_ix ix_seq sIx (ev 0) (ec_int)) (ev 1)) rfl) (ss_one (s_ret (ev 2))))) (ss_nil)) (ss_cons (s_put (pg_sub (ev 0) (ec_int) set_list) (e_op oPlus sPlus (e_ix ix_seq sIx (ev 0) (ec_int)) (ec_int)) rfl) (ss_cons (s_put (pg_sub (ev 0) (ec_int) set_list) (e_op op_mod sMod (e_ct cr_intT sIntT (by rfl) T.b_int (by decide +kernel) (a_cons (e_op oPlus sPlus (e_op oPlus sPlus (e_op oMul sMul (e_ix ix_seq sIx (ev 0) (ec_int)) (ec_int)) (e_op oMul sMul (e_ix ix_seq sIx (ev 0) (ec_int)) (ec_int))) (ec_int)) (a_nil))) (ec_int)) rfl) (ss_cons (s_set (i := 3) sc_law_draw.nd (e_op op_mod sMod (e_ct cr_intT sIntT (by rfl) T.b_int (by decide +kernel) (a_cons (e_op oPlus sPlus (e_op oPlus sPlus (e_op oMul sMul (e_ix ix_seq sIx (ev 0) (ec_int)) (ec_int)) (e_op oMul sMul (e_ix ix_seq sIx (ev 0) (ec_int)) (ec_int))) (ec_int)) (a_nil))) (ec_int))) (ss_one (s_ret (e_op op_mod sMod (e_op op_fdivW sDiv (ev 3) (ec_int)) (ev 1))))))))
theorem ok__law_pick (T : Tx K mg) (U : Tb T base) : FnZ P w K mg base 2 T.a__law_pick T.d__law_pick ["box", "row"] F_law_pick := by
  have G__law_draw := ok__law_draw (P := P) (w := w) (base := base) T U
  exact fn_ok T.u__law_pick (k := 1) sc_law_pick (by decide) fun cdv A outer s H E hr tk =>
    ss_one (s_ret (e_ix ix_seq sIx (ev 1) (e_call G__law_draw (hr.mono (by omega)) T.g__law_draw T.k__law_draw (bd__law_draw T) .nil .nil tk (a_cons (ev 0) (a_cons (e_cb call_len sLen (by rfl) T.b_len (by decide +kernel) (a_cons (ev 1) (a_nil))) (a_nil))))))
theorem ok__law_gcd (T : Tx K mg) (U : Tb T base) : FnZ P w K mg base 1 T.a__law_gcd T.d__law_gcd ["first", "second"] F_law_gcd := by
  exact fn_ok T.u__law_gcd (k := 0) sc_law_gcd (by decide) fun cdv A outer s H E hr tk =>
    ss_cons (s_while 500 (t_cmp op_gt sGt (ev 1) (ec_int)) (ss_one (s_par (i := 0) (j := 1) rfl sc_law_gcd.nd (by decide) (a_cons (ev 1) (a_cons (e_op op_mod sMod (e_ct cr_intT sIntT (by rfl) T.b_int (by decide +kernel) (a_cons (ev 0) (a_nil))) (ev 1)) (a_nil))))) (passes_of rfl)) (ss_one (s_ret (ev 0)))
theorem ok__law_wide (T : Tx K mg) (U : Tb T base) : FnZ P w K mg base 2 T.a__law_wide T.d__law_wide ["box"] F_law_wide := by
  have G__law_draw := ok__law_draw (P := P) (w := w) (base := base) T U
  exact fn_ok T.u__law_wide (k := 1) sc_law_wide (by decide) fun cdv A outer s H E hr tk =>
    ss_one (s_ret (e_op oPlus sPlus (e_op oMul sMul (e_call G__law_draw (hr.mono (by omega)) T.g__law_draw T.k__law_draw (bd__law_draw T) .nil .nil tk (a_cons (ev 0) (a_cons (e_op op_pow sPow (ec_int) (ec_int)) (a_nil)))) (e_op op_pow sPow (ec_int) (ec_int))) (e_call G__law_draw (hr.mono (by omega)) T.g__law_draw T.k__law_draw (bd__law_draw T) .nil .nil tk (a_cons (ev 0) (a_cons (e_op op_pow sPow (ec_int) (ec_int)) (a_nil))))))
theorem ok__law_whole (T : Tx K mg) (U : Tb T base) : FnZ P w K mg base 1 T.a__law_whole T.d__law_whole ["one"] F_law_whole := by
  exact fn_ok T.u__law_whole (k := 0) sc_law_whole (by decide) fun cdv A outer s H E hr tk =>
    ss_one (s_ret (e_and (e_isi .int rfl (by rfl) T.b_isinstance (by rfl) T.b_int (ev 0)) (e_one (e_not (e_isi .bool rfl (by rfl) T.b_isinstance (by rfl) T.b_bool (ev 0))))))
theorem ok__law_moment (T : Tx K mg) (U : Tb T base) : FnZ P w K mg base 2 T.a__law_moment T.d__law_moment ["one"] F_law_moment := by
  have G__law_gcd := ok__law_gcd (P := P) (w := w) (base := base) T U
  have G__law_whole := ok__law_whole (P := P) (w := w) (base := base) T U
  exact fn_ok T.u__law_moment (k := 1) sc_law_moment (by decide) fun cdv A outer s H E hr tk =>
    ss_cons (s_if (PW.pt (w_or (t_not (t_B (e_isi .tup rfl (by rfl) T.b_isinstance (by rfl) T.b_tuple (ev 0)))) (w_or1 (t_cmp (oNe hr.units) sNe (e_cb call_len sLen (by rfl) T.b_len (by decide +kernel) (a_cons (ev 0) (a_nil))) (ec_int))))) (ss_one (s_ret (ec_bl))) (ss_nil)) (ss_cons (s_if (PW.pt (w_or (t_not (t_B (e_call G__law_whole (hr.mono (by omega)) T.g__law_whole T.k__law_whole (bd__law_whole T) .nil .nil tk (a_cons (e_ix ix_seq sIx (ev 0) (ec_int)) (a_nil))))) (w_or1 (t_not (t_B (e_call G__law_whole (hr.mono (by omega)) T.g__law_whole T.k__law_whole (bd__law_whole T) .nil .nil tk (a_cons (e_ix ix_seq sIx (ev 0) (ec_int)) (a_nil)))))))) (ss_one (s_ret (ec_bl))) (ss_nil)) (ss_one (s_ret (e_and (e_cmp op_ge sGe (e_ix ix_seq sIx (ev 0) (ec_int)) (ec_int)) (e_and (e_cmp op_ge sGe (e_ix ix_seq sIx (ev 0) (ec_int)) (ec_int)) (e_one (e_cmp (oEq hr.units) sEq (e_call G__law_gcd (hr.mono (by omega)) T.g__law_gcd T.k__law_gcd (bd__law_gcd T) .nil .nil tk (a_cons (e_ix ix_seq sIx (ev 0) (ec_int)) (a_cons (e_ix ix_seq sIx (ev 0) (ec_int)) (a_nil)))) (ec_int))))))))
theorem ok__law_edge (T : Tx K mg) (U : Tb T base) : FnZ P w K mg base 2 T.a__law_edge T.d__law_edge ["one"] F_law_edge := by
  have G__law_whole := ok__law_whole (P := P) (w := w) (base := base) T U
  exact fn_ok T.u__law_edge (k := 1) sc_law_edge (by decide) fun cdv A outer s H E hr tk =>
    ss_cons (s_if (PW.pt (w_or (t_not (t_B (e_isi .tup rfl (by rfl) T.b_isinstance (by rfl) T.b_tuple (ev 0)))) (w_or1 (t_cmp (oNe hr.units) sNe (e_cb call_len sLen (by rfl) T.b_len (by decide +kernel) (a_cons (ev 0) (a_nil))) (ec_int))))) (ss_one (s_ret (ec_bl))) (ss_nil)) (ss_cons (s_if (PW.pt (w_or (t_not (t_B (e_call G__law_whole (hr.mono (by omega)) T.g__law_whole T.k__law_whole (bd__law_whole T) .nil .nil tk (a_cons (e_ix ix_seq sIx (ev 0) (ec_int)) (a_nil))))) (w_or1 (t_not (t_B (e_call G__law_whole (hr.mono (by omega)) T.g__law_whole T.k__law_whole (bd__law_whole T) .nil .nil tk (a_cons (e_ix ix_seq sIx (ev 0) (ec_int)) (a_nil)))))))) (ss_one (s_ret (ec_bl))) (ss_nil)) (ss_one (s_ret (e_or (e_cmp (oEq hr.units) sEq (e_ix ix_seq sIx (ev 0) (ec_int)) (ec_int)) (e_one (e_cmp (oEq hr.units) sEq (e_ix ix_seq sIx (ev 0) (ec_int)) (ec_int)))))))
theorem ok__law_cap (T : Tx K mg) (U : Tb T base) : FnZ P w K mg base 3 T.a__law_cap T.d__law_cap ["one"] F_law_cap := by
  have G__law_edge := ok__law_edge (P := P) (w := w) (base := base) T U
  exact fn_ok T.u__law_cap (k := 2) sc_law_cap (by decide) fun cdv A outer s H E hr tk =>
    ss_one (s_ret (e_or (e_isN (ev 0)) (e_one (e_call G__law_edge (hr.mono (by omega)) T.g__law_edge T.k__law_edge (bd__law_edge T) .nil .nil tk (a_cons (ev 0) (a_nil))))))
theorem ok__law_span (T : Tx K mg) (U : Tb T base) : FnZ P w K mg base 3 T.a__law_span T.d__law_span ["one"] F_law_span := by
  have G__law_edge := ok__law_edge (P := P) (w := w) (base := base) T U
  exact fn_ok T.u__law_span (k := 2) sc_law_span (by decide) fun cdv A outer s H E hr tk =>
    ss_cons (s_if (PW.pt (w_or (t_not (t_B (e_isi .tup rfl (by rfl) T.b_isinstance (by rfl) T.b_tuple (ev 0)))) (w_or1 (t_cmp (oNe hr.units) sNe (e_cb call_len sLen (by rfl) T.b_len (by decide +kernel) (a_cons (ev 0) (a_nil))) (ec_int))))) (ss_one (s_ret (ec_bl))) (ss_nil)) (ss_cons (s_if (PW.pt (w_or (t_not (t_B (e_call G__law_edge (hr.mono (by omega)) T.g__law_edge T.k__law_edge (bd__law_edge T) .nil .nil tk (a_cons (e_ix ix_seq sIx (ev 0) (ec_int)) (a_nil))))) (w_or1 (t_cmp op_lt sLt (e_ix ix_seq sIx (e_ix ix_seq sIx (ev 0) (ec_int)) (ec_int)) (ec_int))))) (ss_one (s_ret (ec_bl))) (ss_nil)) (ss_cons (s_if (t_isN (e_ix ix_seq sIx (ev 0) (ec_int))) (ss_one (s_ret (ec_bl))) (ss_nil)) (ss_cons (s_if (t_not (t_B (e_call G__law_edge (hr.mono (by omega)) T.g__law_edge T.k__law_edge (bd__law_edge T) .nil .nil tk (a_cons (e_ix ix_seq sIx (ev 0) (ec_int)) (a_nil))))) (ss_one (s_ret (ec_bl))) (ss_nil)) (ss_cons (s_if (t_cmp (oEq hr.units) sEq (e_ix ix_seq sIx (e_ix ix_seq sIx (ev 0) (ec_int)) (ec_int)) (e_ix ix_seq sIx (e_ix ix_seq sIx (ev 0) (ec_int)) (ec_int))) (ss_one (s_ret (e_and (e_cmp (oEq hr.units) sEq (e_ix ix_seq sIx (e_ix ix_seq sIx (ev 0) (ec_int)) (ec_int)) (ec_int)) (e_one (e_cmp (oEq hr.units) sEq (e_ix ix_seq sIx (e_ix ix_seq sIx (ev 0) (ec_int)) (ec_int)) (ec_int)))))) (ss_nil)) (ss_one (s_ret (e_cmp op_gt sGt (e_ix ix_seq sIx (e_ix ix_seq sIx (ev 0) (ec_int)) (ec_int)) (e_ix ix_seq sIx (e_ix ix_seq sIx (ev 0) (ec_int)) (ec_int)))))))))
theorem ok__law_row (T : Tx K mg) (U : Tb T base) : FnZ P w K mg base 4 T.a__law_row T.d__law_row ["one", "size"] F_law_row := by
  have G__law_cap := ok__law_cap (P := P) (w := w) (base := base) T U
  exact fn_ok T.u__law_row (k := 3) sc_law_row (by decide) fun cdv A outer s H E hr tk =>
    ss_cons (s_if (PW.pt (w_or (t_not (t_B (e_isi .tup rfl (by rfl) T.b_isinstance (by rfl) T.b_tuple (ev 0)))) (w_or1 (t_cmp (oNe hr.units) sNe (e_cb call_len sLen (by rfl) T.b_len (by decide +kernel) (a_cons (ev 0) (a_nil))) (ev 1))))) (ss_one (s_ret (ec_bl))) (ss_nil)) (ss_one (s_ret (e_cb (cr_all rfl) sAll (by rfl) T.b_all (by decide +kernel) (a_cons (e_lc (own := [("cap", 2)]) false rfl sc_law_row.nd (i_any (ev 0)) (blkOk_by (N := N_law_row) (sc := defScope s_law_row) (by decide +kernel)) (fun _ _ _ _ _ => by exact g_n 2 sc_law_row.nd) (fun _ _ _ _ _ => by exact ts_nil) (fun _ _ _ _ _ => by exact e_call G__law_cap (hr.mono (by omega)) T.g__law_cap T.k__law_cap (bd__law_cap T) .nil .nil takes0N (a_cons (ev 2) (a_nil))) (by decide)) a_nil))))
theorem ok__law_table (T : Tx K mg) (U : Tb T base) : FnZ P w K mg base 5 T.a__law_table T.d__law_table ["one"] F_law_table := by
  have G__law_row := ok__law_row (P := P) (w := w) (base := base) T U
  exact fn_ok T.u__law_table (k := 4) sc_law_table (by decide) fun cdv A outer s H E hr tk =>
    ss_cons (s_if (PW.pt (w_or (t_not (t_B (e_isi .tup rfl (by rfl) T.b_isinstance (by rfl) T.b_tuple (ev 0)))) (w_or1 (t_cmp op_lt sLt (e_cb call_len sLen (by rfl) T.b_len (by decide +kernel) (a_cons (ev 0) (a_nil))) (ec_int))))) (ss_one (s_ret (ec_bl))) (ss_nil)) (ss_one (s_ret (e_cb (cr_all rfl) sAll (by rfl) T.b_all (by decide +kernel) (a_cons (e_lc (own := [("row", 1)]) false rfl sc_law_table.nd (i_any (ev 0)) (blkOk_by (N := N_law_table) (sc := defScope s_law_table) (by decide +kernel)) (fun _ _ _ _ _ => by exact g_n 1 sc_law_table.nd) (fun _ _ _ _ _ => by exact ts_nil) (fun _ _ _ _ _ => by exact e_call G__law_row (hr.mono (by omega)) T.g__law_row T.k__law_row (bd__law_row T) .nil .nil takes0N (a_cons (ev 1) (a_cons (e_cb call_len sLen (by rfl) T.b_len (by decide +kernel) (a_cons (ev 0) (a_nil))) (a_nil)))) (by decide)) a_nil))))
theorem ok__law_readings (T : Tx K mg) (U : Tb T base) : FnZ P w K mg base 3 T.a__law_readings T.d__law_readings ["clocks", "one"] F_law_readings := by
  have G__law_moment := ok__law_moment (P := P) (w := w) (base := base) T U
  exact fn_ok T.u__law_readings (k := 2) sc_law_readings (by decide) fun cdv A outer s H E hr tk =>
    ss_cons (s_if (PW.pt (w_or (t_not (t_B (e_isi .tup rfl (by rfl) T.b_isinstance (by rfl) T.b_tuple (ev 1)))) (w_or1 (t_cmp (oNe hr.units) sNe (e_cb call_len sLen (by rfl) T.b_len (by decide +kernel) (a_cons (ev 1) (a_nil))) (ev 0))))) (ss_one (s_ret (ec_bl))) (ss_nil)) (ss_one (s_ret (e_cb (cr_all rfl) sAll (by rfl) T.b_all (by decide +kernel) (a_cons (e_lc (own := [("item", 2)]) false rfl sc_law_readings.nd (i_any (ev 1)) (blkOk_by (N := N_law_readings) (sc := defScope s_law_readings) (by decide +kernel)) (fun _ _ _ _ _ => by exact g_n 2 sc_law_readings.nd) (fun _ _ _ _ _ => by exact ts_nil) (fun _ _ _ _ _ => by exact e_call G__law_moment (hr.mono (by omega)) T.g__law_moment T.k__law_moment (bd__law_moment T) .nil .nil takes0N (a_cons (ev 2) (a_nil))) (by decide)) a_nil))))
theorem ok__law_good_moment (T : Tx K mg) (U : Tb T base) : FnZ P w K mg base 3 T.a__law_good_moment T.d__law_good_moment ["box"] F_law_good_moment := by
  have G__law_draw := ok__law_draw (P := P) (w := w) (base := base) T U
  have G__law_gcd := ok__law_gcd (P := P) (w := w) (base := base) T U
  have G__law_wide := ok__law_wide (P := P) (w := w) (base := base) T U
  exact fn_ok T.u__law_good_moment (k := 2) sc_law_good_moment (by decide) fun cdv A outer s H E hr tk =>
    ss_cons (s_set (i := 1) sc_law_good_moment.nd (e_call G__law_draw (hr.mono (by omega)) T.g__law_draw T.k__law_draw (bd__law_draw T) .nil .nil tk (a_cons (ev 0) (a_cons (ec_int) (a_nil))))) (ss_cons (s_if (t_cmp (oEq hr.units) sEq (ev 1) (ec_int)) (ss_one (s_ret (e_tup (a_cons (ec_int) (a_cons (ec_int) (a_nil)))))) (ss_nil)) (ss_cons (s_if (t_cmp (oEq hr.units) sEq (ev 1) (ec_int)) (ss_one (s_ret (e_tup (a_cons (e_call G__law_draw (hr.mono (by omega)) T.g__law_draw T.k__law_draw (bd__law_draw T) .nil .nil tk (a_cons (ev 0) (a_cons (ec_int) (a_nil)))) (a_cons (ec_int) (a_nil)))))) (ss_nil)) (ss_cons (s_set (i := 2) sc_law_good_moment.nd (e_call G__law_draw (hr.mono (by omega)) T.g__law_draw T.k__law_draw (bd__law_draw T) .nil .nil tk (a_cons (ev 0) (a_cons (ec_int) (a_nil))))) (ss_cons (s_set (i := 3) sc_law_good_moment.nd (e_op oPlus sPlus (ec_int) (e_call G__law_draw (hr.mono (by omega)) T.g__law_draw T.k__law_draw (bd__law_draw T) .nil .nil tk (a_cons (ev 0) (a_cons (ec_int) (a_nil)))))) (ss_cons (s_if (t_cmp (oEq hr.units) sEq (ev 1) (ec_int)) (ss_cons (s_set (i := 2) sc_law_good_moment.nd (e_call G__law_wide (hr.mono (by omega)) T.g__law_wide T.k__law_wide (bd__law_wide T) .nil .nil tk (a_cons (ev 0) (a_nil)))) (ss_one (s_set (i := 3) sc_law_good_moment.nd (e_cb (call_max2 rfl) sMax2 (by rfl) T.b_max (by decide +kernel) (a_cons (ec_int) (a_cons (e_call G__law_wide (hr.mono (by omega)) T.g__law_wide T.k__law_wide (bd__law_wide T) .nil .nil tk (a_cons (ev 0) (a_nil))) (a_nil))))))) (ss_nil)) (ss_cons (s_if (t_cmp (oEq hr.units) sEq (ev 1) (ec_int)) (ss_one (s_ret (e_tup (a_cons (ev 2) (a_cons (ev 3) (a_nil)))))) (ss_nil)) (ss_cons (s_set (i := 4) sc_law_good_moment.nd (e_call G__law_gcd (hr.mono (by omega)) T.g__law_gcd T.k__law_gcd (bd__law_gcd T) .nil .nil tk (a_cons (ev 2) (a_cons (ev 3) (a_nil))))) (ss_one (s_ret (e_tup (a_cons (e_op op_fdivW sDiv (ev 2) (ev 4)) (a_cons (e_op op_fdivW sDiv (ev 3) (ev 4)) (a_nil)))))))))))))
theorem ok__law_good_span (T : Tx K mg) (U : Tb T base) : FnZ P w K mg base 3 T.a__law_good_span T.d__law_good_span ["box"] F_law_good_span := by
  have G__law_draw := ok__law_draw (P := P) (w := w) (base := base) T U
  have G__law_pick := ok__law_pick (P := P) (w := w) (base := base) T U
  exact fn_ok T.u__law_good_span (k := 2) sc_law_good_span (by decide) fun cdv A outer s H E hr tk =>
    ss_cons (s_set (i := 1) sc_law_good_span.nd (e_call G__law_draw (hr.mono (by omega)) T.g__law_draw T.k__law_draw (bd__law_draw T) .nil .nil tk (a_cons (ev 0) (a_cons (e_call G__law_pick (hr.mono (by omega)) T.g__law_pick T.k__law_pick (bd__law_pick T) .nil .nil tk (a_cons (ev 0) (a_cons (e_lst false (a_cons (ec_int) (a_cons (ec_int) (a_cons (ec_int) (a_nil))))) (a_nil)))) (a_nil))))) (ss_cons (s_set (i := 2) sc_law_good_span.nd (e_call G__law_draw (hr.mono (by omega)) T.g__law_draw T.k__law_draw (bd__law_draw T) .nil .nil tk (a_cons (ev 0) (a_cons (ec_int) (a_nil))))) (ss_cons (s_set (i := 3) sc_law_good_span.nd (e_call G__law_draw (hr.mono (by omega)) T.g__law_draw T.k__law_draw (bd__law_draw T) .nil .nil tk (a_cons (ev 0) (a_cons (ec_int) (a_nil))))) (ss_cons (s_if (t_cmp (oEq hr.units) sEq (ev 3) (ec_int)) (ss_one (s_ret (e_tup (a_cons (e_tup (a_cons (ev 1) (a_cons (ev 2) (a_nil)))) (a_cons (ec_non) (a_nil)))))) (ss_nil)) (ss_cons (s_if (t_cmp (oEq hr.units) sEq (ev 3) (ec_int)) (ss_one (s_ret (e_tup (a_cons (e_tup (a_cons (ev 1) (a_cons (ev 2) (a_nil)))) (a_cons (e_tup (a_cons (ev 1) (a_cons (e_call G__law_draw (hr.mono (by omega)) T.g__law_draw T.k__law_draw (bd__law_draw T) .nil .nil tk (a_cons (ev 0) (a_cons (ec_int) (a_nil)))) (a_nil)))) (a_nil)))))) (ss_nil)) (ss_cons (s_set (i := 4) sc_law_good_span.nd (e_cb (call_min2 rfl) sMin2 (by rfl) T.b_min (by decide +kernel) (a_cons (ec_int) (a_cons (e_op oPlus sPlus (e_op op_sub sSub (ev 1) (ec_int)) (e_call G__law_draw (hr.mono (by omega)) T.g__law_draw T.k__law_draw (bd__law_draw T) .nil .nil tk (a_cons (ev 0) (a_cons (e_call G__law_pick (hr.mono (by omega)) T.g__law_pick T.k__law_pick (bd__law_pick T) .nil .nil tk (a_cons (ev 0) (a_cons (e_lst false (a_cons (ec_int) (a_cons (ec_int) (a_nil)))) (a_nil)))) (a_nil))))) (a_nil))))) (ss_one (s_ret (e_tup (a_cons (e_tup (a_cons (ev 1) (a_cons (ev 2) (a_nil)))) (a_cons (e_tup (a_cons (ev 4) (a_cons (e_call G__law_draw (hr.mono (by omega)) T.g__law_draw T.k__law_draw (bd__law_draw T) .nil .nil tk (a_cons (ev 0) (a_cons (ec_int) (a_nil)))) (a_nil)))) (a_nil)))))))))))
theorem ok__law_good_cap (T : Tx K mg) (U : Tb T base) : FnZ P w K mg base 2 T.a__law_good_cap T.d__law_good_cap ["box"] F_law_good_cap := by
  have G__law_draw := ok__law_draw (P := P) (w := w) (base := base) T U
  exact fn_ok T.u__law_good_cap (k := 1) sc_law_good_cap (by decide) fun cdv A outer s H E hr tk =>
    ss_cons (s_if (t_cmp (oEq hr.units) sEq (e_call G__law_draw (hr.mono (by omega)) T.g__law_draw T.k__law_draw (bd__law_draw T) .nil .nil tk (a_cons (ev 0) (a_cons (ec_int) (a_nil)))) (ec_int)) (ss_one (s_ret (ec_non))) (ss_nil)) (ss_cons (s_set (i := 1) sc_law_good_cap.nd (e_op op_sub sSub (e_call G__law_draw (hr.mono (by omega)) T.g__law_draw T.k__law_draw (bd__law_draw T) .nil .nil tk (a_cons (ev 0) (a_cons (ec_int) (a_nil)))) (ec_int))) (ss_one (s_ret (e_tup (a_cons (ev 1) (a_cons (e_call G__law_draw (hr.mono (by omega)) T.g__law_draw T.k__law_draw (bd__law_draw T) .nil .nil tk (a_cons (ev 0) (a_cons (ec_int) (a_nil)))) (a_nil)))))))
theorem ok__law_good (T : Tx K mg) (U : Tb T base) : FnZ P w K mg base 4 T.a__law_good T.d__law_good ["box", "form", "clocks"] F_law_good := by
  have G__law_draw := ok__law_draw (P := P) (w := w) (base := base) T U
  have G__law_good_cap := ok__law_good_cap (P := P) (w := w) (base := base) T U
  have G__law_good_moment := ok__law_good_moment (P := P) (w := w) (base := base) T U
  have G__law_good_span := ok__law_good_span (P := P) (w := w) (base := base) T U
  exact fn_ok T.u__law_good (k := 3) sc_law_good (by decide) fun cdv A outer s H E hr tk =>
    ss_cons (s_if (t_cmp (oEq hr.units) sEq (ev 1) (ec_int)) (ss_one (s_ret (e_call G__law_good_moment (hr.mono (by omega)) T.g__law_good_moment T.k__law_good_moment (bd__law_good_moment T) .nil .nil tk (a_cons (ev 0) (a_nil))))) (ss_nil)) (ss_cons (s_if (t_cmp (oEq hr.units) sEq (ev 1) (ec_int)) (ss_cons (s_set (i := 3) sc_law_good.nd (e_op op_sub sSub (e_call G__law_draw (hr.mono (by omega)) T.g__law_draw T.k__law_draw (bd__law_draw T) .nil .nil tk (a_cons (ev 0) (a_cons (ec_int) (a_nil)))) (ec_int))) (ss_one (s_ret (e_tup (a_cons (ev 3) (a_cons (e_call G__law_draw (hr.mono (by omega)) T.g__law_draw T.k__law_draw (bd__law_draw T) .nil .nil tk (a_cons (ev 0) (a_cons (ec_int) (a_nil)))) (a_nil))))))) (ss_nil)) (ss_cons (s_if (t_cmp (oEq hr.units) sEq (ev 1) (ec_int)) (ss_one (s_ret (e_call G__law_good_span (hr.mono (by omega)) T.g__law_good_span T.k__law_good_span (bd__law_good_span T) .nil .nil tk (a_cons (ev 0) (a_nil))))) (ss_nil)) (ss_cons (s_if (t_cmp (oEq hr.units) sEq (ev 1) (ec_int)) (ss_one (s_ret (e_call G__law_good_cap (hr.mono (by omega)) T.g__law_good_cap T.k__law_good_cap (bd__law_good_cap T) .nil .nil tk (a_cons (ev 0) (a_nil))))) (ss_nil)) (ss_cons (s_if (t_cmp (oEq hr.units) sEq (ev 1) (ec_int)) (ss_one (s_ret (e_ct call_tuple_of sTuple (by rfl) T.b_tuple (by decide +kernel) (a_cons (e_lc (own := [("k", 4)]) false rfl sc_law_good.nd (i_rng1 (by rfl) T.b_range (a_cons (ev 2) (a_nil))) (blkOk_by (N := N_law_good) (sc := defScope s_law_good) (by decide +kernel)) (fun _ _ _ _ _ => by exact g_n 4 sc_law_good.nd) (fun _ _ _ _ _ => by exact ts_nil) (fun _ _ _ _ _ => by exact e_call G__law_good_moment (hr.mono (by omega)) T.g__law_good_moment T.k__law_good_moment (bd__law_good_moment T) .nil .nil takes0N (a_cons (ev 0) (a_nil))) (by decide)) (a_nil))))) (ss_nil)) (ss_cons (s_set (i := 5) sc_law_good.nd (e_lst true (a_nil))) (ss_cons (s_for rfl (i_rng1 (by rfl) T.b_range (a_cons (e_op oPlus sPlus (ev 2) (ec_int)) (a_nil))) (g_n 6 sc_law_good.nd) (ss_one (s_expr (e_bm .list PySem.F.plainAttrs_list PySem.F.slot_list_append PySem.F.type_list_append mt_append sApp (ev 5) (a_cons (e_ct call_tuple_of sTuple (by rfl) T.b_tuple (by decide +kernel) (a_cons (e_lc (own := [("k", 4)]) false rfl sc_law_good.nd (i_rng1 (by rfl) T.b_range (a_cons (e_op oPlus sPlus (ev 2) (ec_int)) (a_nil))) (blkOk_by (N := N_law_good) (sc := defScope s_law_good) (by decide +kernel)) (fun _ _ _ _ _ => by exact g_n 4 sc_law_good.nd) (fun _ _ _ _ _ => by exact ts_nil) (fun _ _ _ _ _ => by exact e_call G__law_good_cap (hr.mono (by omega)) T.g__law_good_cap T.k__law_good_cap (bd__law_good_cap T) .nil .nil takes0N (a_cons (ev 0) (a_nil))) (by decide)) (a_nil))) (a_nil))))) (passes_of rfl)) (ss_one (s_ret (e_ct call_tuple_of sTuple (by rfl) T.b_tuple (by decide +kernel) (a_cons (ev 5) (a_nil)))))))))))
theorem ok__law_odd (T : Tx K mg) (U : Tb T base) : FnZ P w K mg base 3 T.a__law_odd T.d__law_odd ["box"] F_law_odd := by
  have G__law_pick := ok__law_pick (P := P) (w := w) (base := base) T U
  exact fn_ok T.u__law_odd (k := 2) sc_law_odd (by decide) fun cdv A outer s H E hr tk =>
    ss_cons (s_set (i := 1) sc_law_odd.nd (e_lst false (a_cons (ec_non) (a_cons (ec_bl) (a_cons (ec_bl) (a_cons (ec_int) (a_cons (ec_int) (a_cons (ec_int) (a_cons (e_un un_neg sNeg (ec_int)) (a_cons (ec_int) (a_cons (e_un un_neg sNeg (ec_int)) (a_cons (e_op op_pow sPow (ec_int) (ec_int)) (a_cons (ec_str) (a_cons (ec_str) (a_cons (ec_str) (a_cons (e_tup (a_nil)) (a_cons (e_lst false (a_nil)) (a_cons (e_tup (a_cons (ec_int) (a_cons (ec_int) (a_nil)))) (a_cons (e_lst false (a_cons (ec_int) (a_cons (ec_int) (a_nil)))) (a_nil)))))))))))))))))))) (ss_cons (s_set (i := 1) sc_law_odd.nd (e_op oPlus sPlus (ev 1) (e_lst false (a_cons (e_tup (a_cons (ec_int) (a_cons (ec_int) (a_nil)))) (a_cons (e_tup (a_cons (ec_int) (a_cons (ec_int) (a_nil)))) (a_cons (e_tup (a_cons (ec_bl) (a_cons (ec_int) (a_nil)))) (a_cons (e_tup (a_cons (ec_int) (a_cons (ec_bl) (a_nil)))) (a_cons (e_tup (a_cons (ec_int) (a_cons (ec_bl) (a_nil)))) (a_cons (e_tup (a_cons (ec_bl) (a_cons (ec_int) (a_nil)))) (a_cons (e_tup (a_cons (e_tup (a_cons (ec_int) (a_cons (ec_int) (a_nil)))) (a_cons (ec_non) (a_nil)))) (a_cons (e_tup (a_cons (ec_int) (a_cons (ec_int) (a_nil)))) (a_nil)))))))))))) (ss_cons (s_set (i := 1) sc_law_odd.nd (e_op oPlus sPlus (ev 1) (e_lst false (a_cons (e_tup (a_cons (ec_non) (a_nil))) (a_cons (e_tup (a_cons (ec_int) (a_cons (ec_int) (a_cons (ec_int) (a_nil))))) (a_cons (e_tup (a_cons (ec_int) (a_cons (ec_int) (a_nil)))) (a_nil))))))) (ss_one (s_ret (e_call G__law_pick (hr.mono (by omega)) T.g__law_pick T.k__law_pick (bd__law_pick T) .nil .nil tk (a_cons (ev 0) (a_cons (ev 1) (a_nil))))))))
theorem ok__law_bent (T : Tx K mg) (U : Tb T base) : ∀ n : Nat, FnZ P w K mg base (4 + n) T.a__law_bent T.d__law_bent ["box", "value"] (F_law_bent n)
  | 0 => fn_bad
  | n + 1 => by
    have G__law_draw := ok__law_draw (P := P) (w := w) (base := base) T U
    have G__law_odd := ok__law_odd (P := P) (w := w) (base := base) T U
    have G__law_whole := ok__law_whole (P := P) (w := w) (base := base) T U
    have G__law_bent := ok__law_bent T U n
    exact fn_ok T.u__law_bent (k := 4 + n) sc_law_bent (by decide) fun cdv A outer s H E hr tk =>
      ss_cons (s_set (i := 2) sc_law_bent.nd (e_and (e_isi2 .tup .list rfl rfl (by rfl) T.b_isinstance (by rfl) T.b_tuple (by rfl) T.b_list (ev 1)) (e_one (e_cmp op_gt sGt (e_cb call_len sLen (by rfl) T.b_len (by decide +kernel) (a_cons (ev 1) (a_nil))) (ec_int))))) (ss_cons (s_if (PW.pt (w_and (t_B (ev 2)) (w_and1 (t_cmp op_gt sGt (e_call G__law_draw (hr.mono (by omega)) T.g__law_draw T.k__law_draw (bd__law_draw T) .nil .nil tk (a_cons (ev 0) (a_cons (ec_int) (a_nil)))) (ec_int))))) (ss_cons (s_set (i := 3) sc_law_bent.nd (e_call G__law_draw (hr.mono (by omega)) T.g__law_draw T.k__law_draw (bd__law_draw T) .nil .nil tk (a_cons (ev 0) (a_cons (e_cb call_len sLen (by rfl) T.b_len (by decide +kernel) (a_cons (ev 1) (a_nil))) (a_nil))))) (ss_cons (s_set (i := 4) sc_law_bent.nd (e_ct call_list_of (sList true) (by rfl) T.b_list (by decide +kernel) (a_cons (ev 1) (a_nil)))) (ss_cons (s_put (pg_sub (ev 4) (ev 3) set_list) (e_call G__law_bent (hr.mono (by omega)) T.g__law_bent T.k__law_bent (bd__law_bent T) .nil .nil tk (a_cons (ev 0) (a_cons (e_ix ix_seq sIx (ev 4) (ev 3)) (a_nil)))) rfl) (ss_cons (s_if (t_B (e_isi .list rfl (by rfl) T.b_isinstance (by rfl) T.b_list (ev 1))) (ss_one (s_ret (ev 4))) (ss_nil)) (ss_one (s_ret (e_ct call_tuple_of sTuple (by rfl) T.b_tuple (by decide +kernel) (a_cons (ev 4) (a_nil))))))))) (ss_nil)) (ss_cons (s_set (i := 5) sc_law_bent.nd (e_call G__law_draw (hr.mono (by omega)) T.g__law_draw T.k__law_draw (bd__law_draw T) .nil .nil tk (a_cons (ev 0) (a_cons (ec_int) (a_nil))))) (ss_cons (s_if (PW.pt (w_and (t_cmp (oEq hr.units) sEq (ev 5) (ec_int)) (w_and1 (t_B (e_isi .tup rfl (by rfl) T.b_isinstance (by rfl) T.b_tuple (ev 1)))))) (ss_one (s_ret (e_ct call_list_of (sList false) (by rfl) T.b_list (by decide +kernel) (a_cons (ev 1) (a_nil))))) (ss_nil)) (ss_cons (s_if (PW.pt (w_and (t_cmp (oEq hr.units) sEq (ev 5) (ec_int)) (w_and1 (t_B (ev 2))))) (ss_cons (s_set (i := 3) sc_law_bent.nd (e_call G__law_draw (hr.mono (by omega)) T.g__law_draw T.k__law_draw (bd__law_draw T) .nil .nil tk (a_cons (ev 0) (a_cons (e_cb call_len sLen (by rfl) T.b_len (by decide +kernel) (a_cons (ev 1) (a_nil))) (a_nil))))) (ss_one (s_ret (e_op oPlus sPlus (e_sl false (ev 1) (o_none) (o_some (ev 3))) (e_sl false (ev 1) (o_some (e_op oPlus sPlus (ev 3) (ec_int))) (o_none)))))) (ss_nil)) (ss_cons (s_if (PW.pt (w_and (t_cmp (oEq hr.units) sEq (ev 5) (ec_int)) (w_and1 (t_B (e_isi .tup rfl (by rfl) T.b_isinstance (by rfl) T.b_tuple (ev 1)))))) (ss_one (s_ret (e_op oPlus sPlus (ev 1) (e_tup (a_cons (e_call G__law_odd (hr.mono (by omega)) T.g__law_odd T.k__law_odd (bd__law_odd T) .nil .nil tk (a_cons (ev 0) (a_nil))) (a_nil)))))) (ss_nil)) (ss_cons (s_if (PW.pt (w_and (t_cmp (oEq hr.units) sEq (ev 5) (ec_int)) (w_and1 (t_B (e_call G__law_whole (hr.mono (by omega)) T.g__law_whole T.k__law_whole (bd__law_whole T) .nil .nil tk (a_cons (ev 1) (a_nil))))))) (ss_one (s_ret (e_op op_sub sSub (e_op oPlus sPlus (ev 1) (ec_int)) (e_op oMul sMul (ec_int) (e_call G__law_draw (hr.mono (by omega)) T.g__law_draw T.k__law_draw (bd__law_draw T) .nil .nil tk (a_cons (ev 0) (a_cons (ec_int) (a_nil)))))))) (ss_nil)) (ss_one (s_ret (e_call G__law_odd (hr.mono (by omega)) T.g__law_odd T.k__law_odd (bd__law_odd T) .nil .nil tk (a_cons (ev 0) (a_nil)))))))))))
theorem ok__law_told (T : Tx K mg) (U : Tb T base) : FnZ P w K mg base 1 T.a__law_told T.d__law_told ["actual", "due"] F_law_told := by
  exact fn_ok T.u__law_told (k := 0) sc_law_told (by decide) fun cdv A outer s H E hr tk =>
    ss_one (s_ret (e_or (e_and (e_isB (ev 0)) (e_one (ev 1))) (e_one (e_and (e_isB (ev 0)) (e_one (e_not (ev 1)))))))
theorem ok__law_judged (T : Tx K mg) (U : Tb T base) : FnZ P w K mg base 8 T.a__law_judged T.d__law_judged ["clocks", "value"] F_law_judged := by
  have G__law_cap := ok__law_cap (P := P) (w := w) (base := base) T U
  have G__law_edge := ok__law_edge (P := P) (w := w) (base := base) T U
  have G__law_moment := ok__law_moment (P := P) (w := w) (base := base) T U
  have G__law_readings := ok__law_readings (P := P) (w := w) (base := base) T U
  have G__law_span := ok__law_span (P := P) (w := w) (base := base) T U
  have G__law_table := ok__law_table (P := P) (w := w) (base := base) T U
  have G__law_told := ok__law_told (P := P) (w := w) (base := base) T U
  have G_is_cap := ok_is_cap (P := P) (w := w) (base := base) T U
  have G_is_edge := ok_is_edge (P := P) (w := w) (base := base) T U
  have G_is_moment := ok_is_moment (P := P) (w := w) (base := base) T U
  have G_is_readings := ok_is_readings (P := P) (w := w) (base := base) T U
  have G_is_span := ok_is_span (P := P) (w := w) (base := base) T U
  have G_is_table := ok_is_table (P := P) (w := w) (base := base) T U
  exact fn_ok T.u__law_judged (k := 7) sc_law_judged (by decide) fun cdv A outer s H E hr tk =>
    ss_cons (s_if (t_not (t_B (e_call G__law_told (hr.mono (by omega)) T.g__law_told T.k__law_told (bd__law_told T) .nil .nil tk (a_cons (e_call G_is_moment (hr.mono (by omega)) T.g_is_moment T.k_is_moment (bd_is_moment T) .nil .nil tk (a_cons (ev 1) (a_nil))) (a_cons (e_call G__law_moment (hr.mono (by omega)) T.g__law_moment T.k__law_moment (bd__law_moment T) .nil .nil tk (a_cons (ev 1) (a_nil))) (a_nil)))))) (ss_one (s_ret (ec_bl))) (ss_nil)) (ss_cons (s_if (t_not (t_B (e_call G__law_told (hr.mono (by omega)) T.g__law_told T.k__law_told (bd__law_told T) .nil .nil tk (a_cons (e_call G_is_edge (hr.mono (by omega)) T.g_is_edge T.k_is_edge (bd_is_edge T) .nil .nil tk (a_cons (ev 1) (a_nil))) (a_cons (e_call G__law_edge (hr.mono (by omega)) T.g__law_edge T.k__law_edge (bd__law_edge T) .nil .nil tk (a_cons (ev 1) (a_nil))) (a_nil)))))) (ss_one (s_ret (ec_bl))) (ss_nil)) (ss_cons (s_if (t_not (t_B (e_call G__law_told (hr.mono (by omega)) T.g__law_told T.k__law_told (bd__law_told T) .nil .nil tk (a_cons (e_call G_is_cap (hr.mono (by omega)) T.g_is_cap T.k_is_cap (bd_is_cap T) .nil .nil tk (a_cons (ev 1) (a_nil))) (a_cons (e_call G__law_cap (hr.mono (by omega)) T.g__law_cap T.k__law_cap (bd__law_cap T) .nil .nil tk (a_cons (ev 1) (a_nil))) (a_nil)))))) (ss_one (s_ret (ec_bl))) (ss_nil)) (ss_cons (s_if (t_not (t_B (e_call G__law_told (hr.mono (by omega)) T.g__law_told T.k__law_told (bd__law_told T) .nil .nil tk (a_cons (e_call G_is_span (hr.mono (by omega)) T.g_is_span T.k_is_span (bd_is_span T) .nil .nil tk (a_cons (ev 1) (a_nil))) (a_cons (e_call G__law_span (hr.mono (by omega)) T.g__law_span T.k__law_span (bd__law_span T) .nil .nil tk (a_cons (ev 1) (a_nil))) (a_nil)))))) (ss_one (s_ret (ec_bl))) (ss_nil)) (ss_cons (s_if (t_not (t_B (e_call G__law_told (hr.mono (by omega)) T.g__law_told T.k__law_told (bd__law_told T) .nil .nil tk (a_cons (e_call G_is_table (hr.mono (by omega)) T.g_is_table T.k_is_table (bd_is_table T) .nil .nil tk (a_cons (ev 1) (a_nil))) (a_cons (e_call G__law_table (hr.mono (by omega)) T.g__law_table T.k__law_table (bd__law_table T) .nil .nil tk (a_cons (ev 1) (a_nil))) (a_nil)))))) (ss_one (s_ret (ec_bl))) (ss_nil)) (ss_cons (s_for rfl (i_rng2 (by rfl) T.b_range (a_cons (e_cb (call_max2 rfl) sMax2 (by rfl) T.b_max (by decide +kernel) (a_cons (ec_int) (a_cons (e_op op_sub sSub (ev 0) (ec_int)) (a_nil)))) (a_cons (e_op oPlus sPlus (ev 0) (ec_int)) (a_nil)))) (g_n 2 sc_law_judged.nd) (ss_one (s_if (t_not (t_B (e_call G__law_told (hr.mono (by omega)) T.g__law_told T.k__law_told (bd__law_told T) .nil .nil tk (a_cons (e_call G_is_readings (hr.mono (by omega)) T.g_is_readings T.k_is_readings (bd_is_readings T) .nil .nil tk (a_cons (ev 2) (a_cons (ev 1) (a_nil)))) (a_cons (e_call G__law_readings (hr.mono (by omega)) T.g__law_readings T.k__law_readings (bd__law_readings T) .nil .nil tk (a_cons (ev 2) (a_cons (ev 1) (a_nil)))) (a_nil)))))) (ss_one (s_ret (ec_bl))) (ss_nil))) (passes_of rfl)) (ss_one (s_ret (ec_bl))))))))
theorem ok_law (T : Tx K mg) (U : Tb T base) : FnZ P w K mg base 13 T.a_law T.d_law ["script"] Flaw := by
  have G__law_bent := ok__law_bent (P := P) (w := w) (base := base) T U 8
  have G__law_box := ok__law_box (P := P) (w := w) (base := base) T U
  have G__law_draw := ok__law_draw (P := P) (w := w) (base := base) T U
  have G__law_good := ok__law_good (P := P) (w := w) (base := base) T U
  have G__law_judged := ok__law_judged (P := P) (w := w) (base := base) T U
  have G__law_pick := ok__law_pick (P := P) (w := w) (base := base) T U
  exact fn_ok T.u_law (k := 12) sclaw (by decide) fun cdv A outer s H E hr tk =>
    ss_cons (s_set (i := 1) sclaw.nd (e_call G__law_box (hr.mono (by omega)) T.g__law_box T.k__law_box (bd__law_box T) .nil .nil tk (a_cons (ev 0) (a_nil)))) (ss_cons (s_set (i := 2) sclaw.nd (e_call G__law_pick (hr.mono (by omega)) T.g__law_pick T.k__law_pick (bd__law_pick T) .nil .nil tk (a_cons (ev 1) (a_cons (e_lst false (a_cons (ec_int) (a_cons (ec_int) (a_cons (ec_int) (a_cons (ec_int) (a_cons (ec_int) (a_cons (ec_int) (a_nil)))))))) (a_nil))))) (ss_cons (s_set (i := 3) sclaw.nd (e_call G__law_good (hr.mono (by omega)) T.g__law_good T.k__law_good (bd__law_good T) .nil .nil tk (a_cons (ev 1) (a_cons (e_call G__law_draw (hr.mono (by omega)) T.g__law_draw T.k__law_draw (bd__law_draw T) .nil .nil tk (a_cons (ev 1) (a_cons (ec_int) (a_nil)))) (a_cons (ev 2) (a_nil)))))) (ss_cons (s_for rfl (i_rng1 (by rfl) T.b_range (a_cons (ec_int) (a_nil))) (g_n 4 sclaw.nd) (ss_cons (s_if (t_not (t_B (e_call G__law_judged (hr.mono (by omega)) T.g__law_judged T.k__law_judged (bd__law_judged T) .nil .nil tk (a_cons (ev 2) (a_cons (ev 3) (a_nil)))))) (ss_one (s_ret (ec_bl))) (ss_nil)) (ss_one (s_if (PW.pt (w_and (t_cmp op_gt sGt (e_call G__law_draw (hr.mono (by omega)) T.g__law_draw T.k__law_draw (bd__law_draw T) .nil .nil tk (a_cons (ev 1) (a_cons (ec_int) (a_nil)))) (ec_int)) (w_and1 (t_cmp op_lt sLt (ev 4) (ec_int))))) (ss_one (s_set (i := 3) sclaw.nd (e_call G__law_bent (hr.mono (by omega)) T.g__law_bent T.k__law_bent (bd__law_bent T) .nil .nil tk (a_cons (ev 1) (a_cons (ev 3) (a_nil)))))) (ss_nil)))) (passes_of rfl)) (ss_cons (s_if (t_cmp (oEq hr.units) sEq (e_call G__law_draw (hr.mono (by omega)) T.g__law_draw T.k__law_draw (bd__law_draw T) .nil .nil tk (a_cons (ev 1) (a_cons (ec_int) (a_nil)))) (ec_int)) (ss_one (s_for rfl (i_rng1 (by rfl) T.b_range (a_cons (e_op oPlus sPlus (ec_int) (e_call G__law_draw (hr.mono (by omega)) T.g__law_draw T.k__law_draw (bd__law_draw T) .nil .nil tk (a_cons (ev 1) (a_cons (ec_int) (a_nil))))) (a_nil))) (g_n 4 sclaw.nd) (ss_one (s_set (i := 3) sclaw.nd (e_call G__law_pick (hr.mono (by omega)) T.g__law_pick T.k__law_pick (bd__law_pick T) .nil .nil tk (a_cons (ev 1) (a_cons (e_lst false (a_cons (e_tup (a_cons (ev 3) (a_nil))) (a_cons (e_lst false (a_cons (ev 3) (a_nil))) (a_nil)))) (a_nil)))))) (passes_of rfl))) (ss_nil)) (ss_cons (s_set (i := 5) sclaw.nd (e_cb (cr_repr hr) sRepr (by rfl) T.b_repr (by decide +kernel) (a_cons (ev 3) (a_nil)))) (ss_cons (s_if (PW.pt (w_or (t_not (t_B (e_call G__law_judged (hr.mono (by omega)) T.g__law_judged T.k__law_judged (bd__law_judged T) .nil .nil tk (a_cons (ev 2) (a_cons (ev 3) (a_nil)))))) (w_or1 (t_not (t_B (e_call G__law_judged (hr.mono (by omega)) T.g__law_judged T.k__law_judged (bd__law_judged T) .nil .nil tk (a_cons (ev 2) (a_cons (ev 3) (a_nil))))))))) (ss_one (s_ret (ec_bl))) (ss_nil)) (ss_one (s_ret (e_cmp (oEq hr.units) sEq (e_cb (cr_repr hr) sRepr (by rfl) T.b_repr (by decide +kernel) (a_cons (ev 3) (a_nil))) (ev 5))))))))))
end
end K02
end

section
set_option Elab.async false
set_option linter.all false
set_option maxRecDepth 100000
set_option maxHeartbeats 4000000
namespace K02
open PySem PySem.Spec PyProof.Rows L2 Z
theorem all_mk {P q : Program} {w : World} {K : PySem.W.Frag} {h : Heap} {mg : Str → Option Value} {fa : Addr} (X : K.In h) (G : h.Ns mainGlobals mg) (hfa : mg "law" = some (.ref fa)) (hF : Holds Flaw)
    {f_is_whole : Addr} {oc_is_whole : Value} {od_is_whole an_is_whole : Option Addr} {sl_is_whole : Array (Option Value)} {kV_is_whole dc_is_whole pm_is_whole cd_is_whole ct_is_whole : Value}
    {f_is_tuple_of : Addr} {oc_is_tuple_of : Value} {od_is_tuple_of an_is_tuple_of : Option Addr} {sl_is_tuple_of : Array (Option Value)} {kV_is_tuple_of dc_is_tuple_of pm_is_tuple_of cd_is_tuple_of ct_is_tuple_of : Value}
    {f_is_moment : Addr} {oc_is_moment : Value} {od_is_moment an_is_moment : Option Addr} {sl_is_moment : Array (Option Value)} {kV_is_moment dc_is_moment pm_is_moment cd_is_moment ct_is_moment : Value}
    {f_is_edge : Addr} {oc_is_edge : Value} {od_is_edge an_is_edge : Option Addr} {sl_is_edge : Array (Option Value)} {kV_is_edge dc_is_edge pm_is_edge cd_is_edge ct_is_edge : Value}
    {f_is_span : Addr} {oc_is_span : Value} {od_is_span an_is_span : Option Addr} {sl_is_span : Array (Option Value)} {kV_is_span dc_is_span pm_is_span cd_is_span ct_is_span : Value}
    {f_has_moment : Addr} {oc_has_moment : Value} {od_has_moment an_has_moment : Option Addr} {sl_has_moment : Array (Option Value)} {kV_has_moment dc_has_moment pm_has_moment cd_has_moment ct_has_moment : Value}
    {f_is_cap : Addr} {oc_is_cap : Value} {od_is_cap an_is_cap : Option Addr} {sl_is_cap : Array (Option Value)} {kV_is_cap dc_is_cap pm_is_cap cd_is_cap ct_is_cap : Value}
    {f_is_table : Addr} {oc_is_table : Value} {od_is_table an_is_table : Option Addr} {sl_is_table : Array (Option Value)} {kV_is_table dc_is_table pm_is_table ct_is_table : Value}
    {tc_is_table : Addr} {td_is_table : Option Addr} {tv_is_table : Array Value} {ts_is_table : Array (Option Value)} {tp_is_table : Addr}
    {f_is_table_row : Addr} {oc_is_table_row : Value} {od_is_table_row an_is_table_row : Option Addr} {sl_is_table_row : Array (Option Value)} {kV_is_table_row dc_is_table_row pm_is_table_row ct_is_table_row : Value}
    {tc_is_table_row : Addr} {td_is_table_row : Option Addr} {tv_is_table_row : Array Value} {ts_is_table_row : Array (Option Value)} {tp_is_table_row : Addr}
    {f_is_readings : Addr} {oc_is_readings : Value} {od_is_readings an_is_readings : Option Addr} {sl_is_readings : Array (Option Value)} {kV_is_readings dc_is_readings pm_is_readings ct_is_readings : Value}
    {tc_is_readings : Addr} {td_is_readings : Option Addr} {tv_is_readings : Array Value} {ts_is_readings : Array (Option Value)} {tp_is_readings : Addr}
    {f__law_box : Addr} {oc__law_box : Value} {od__law_box an__law_box : Option Addr} {sl__law_box : Array (Option Value)} {kV__law_box dc__law_box pm__law_box cd__law_box ct__law_box : Value}
    {f__law_draw : Addr} {oc__law_draw : Value} {od__law_draw an__law_draw : Option Addr} {sl__law_draw : Array (Option Value)} {kV__law_draw dc__law_draw pm__law_draw cd__law_draw ct__law_draw : Value}
    {f__law_pick : Addr} {oc__law_pick : Value} {od__law_pick an__law_pick : Option Addr} {sl__law_pick : Array (Option Value)} {kV__law_pick dc__law_pick pm__law_pick cd__law_pick ct__law_pick : Value}
    {f__law_gcd : Addr} {oc__law_gcd : Value} {od__law_gcd an__law_gcd : Option Addr} {sl__law_gcd : Array (Option Value)} {kV__law_gcd dc__law_gcd pm__law_gcd cd__law_gcd ct__law_gcd : Value}
    {f__law_wide : Addr} {oc__law_wide : Value} {od__law_wide an__law_wide : Option Addr} {sl__law_wide : Array (Option Value)} {kV__law_wide dc__law_wide pm__law_wide cd__law_wide ct__law_wide : Value}
    {f__law_whole : Addr} {oc__law_whole : Value} {od__law_whole an__law_whole : Option Addr} {sl__law_whole : Array (Option Value)} {kV__law_whole dc__law_whole pm__law_whole cd__law_whole ct__law_whole : Value}
    {f__law_moment : Addr} {oc__law_moment : Value} {od__law_moment an__law_moment : Option Addr} {sl__law_moment : Array (Option Value)} {kV__law_moment dc__law_moment pm__law_moment cd__law_moment ct__law_moment : Value}
    {f__law_edge : Addr} {oc__law_edge : Value} {od__law_edge an__law_edge : Option Addr} {sl__law_edge : Array (Option Value)} {kV__law_edge dc__law_edge pm__law_edge cd__law_edge ct__law_edge : Value}
    {f__law_cap : Addr} {oc__law_cap : Value} {od__law_cap an__law_cap : Option Addr} {sl__law_cap : Array (Option Value)} {kV__law_cap dc__law_cap pm__law_cap cd__law_cap ct__law_cap : Value}
    {f__law_span : Addr} {oc__law_span : Value} {od__law_span an__law_span : Option Addr} {sl__law_span : Array (Option Value)} {kV__law_span dc__law_span pm__law_span cd__law_span ct__law_span : Value}
    {f__law_row : Addr} {oc__law_row : Value} {od__law_row an__law_row : Option Addr} {sl__law_row : Array (Option Value)} {kV__law_row dc__law_row pm__law_row cd__law_row ct__law_row : Value}
    {f__law_table : Addr} {oc__law_table : Value} {od__law_table an__law_table : Option Addr} {sl__law_table : Array (Option Value)} {kV__law_table dc__law_table pm__law_table cd__law_table ct__law_table : Value}
    {f__law_readings : Addr} {oc__law_readings : Value} {od__law_readings an__law_readings : Option Addr} {sl__law_readings : Array (Option Value)} {kV__law_readings dc__law_readings pm__law_readings cd__law_readings ct__law_readings : Value}
    {f__law_good_moment : Addr} {oc__law_good_moment : Value} {od__law_good_moment an__law_good_moment : Option Addr} {sl__law_good_moment : Array (Option Value)} {kV__law_good_moment dc__law_good_moment pm__law_good_moment cd__law_good_moment ct__law_good_moment : Value}
    {f__law_good_span : Addr} {oc__law_good_span : Value} {od__law_good_span an__law_good_span : Option Addr} {sl__law_good_span : Array (Option Value)} {kV__law_good_span dc__law_good_span pm__law_good_span cd__law_good_span ct__law_good_span : Value}
    {f__law_good_cap : Addr} {oc__law_good_cap : Value} {od__law_good_cap an__law_good_cap : Option Addr} {sl__law_good_cap : Array (Option Value)} {kV__law_good_cap dc__law_good_cap pm__law_good_cap cd__law_good_cap ct__law_good_cap : Value}
    {f__law_good : Addr} {oc__law_good : Value} {od__law_good an__law_good : Option Addr} {sl__law_good : Array (Option Value)} {kV__law_good dc__law_good pm__law_good cd__law_good ct__law_good : Value}
    {f__law_odd : Addr} {oc__law_odd : Value} {od__law_odd an__law_odd : Option Addr} {sl__law_odd : Array (Option Value)} {kV__law_odd dc__law_odd pm__law_odd cd__law_odd ct__law_odd : Value}
    {f__law_bent : Addr} {oc__law_bent : Value} {od__law_bent an__law_bent : Option Addr} {sl__law_bent : Array (Option Value)} {kV__law_bent dc__law_bent pm__law_bent cd__law_bent ct__law_bent : Value}
    {f__law_told : Addr} {oc__law_told : Value} {od__law_told an__law_told : Option Addr} {sl__law_told : Array (Option Value)} {kV__law_told dc__law_told pm__law_told cd__law_told ct__law_told : Value}
    {f__law_judged : Addr} {oc__law_judged : Value} {od__law_judged an__law_judged : Option Addr} {sl__law_judged : Array (Option Value)} {kV__law_judged dc__law_judged pm__law_judged cd__law_judged ct__law_judged : Value}
    {f_law : Addr} {oc_law : Value} {od_law an_law : Option Addr} {sl_law : Array (Option Value)} {kV_law dc_law pm_law cd_law ct_law : Value}
    (gB_all : PySem.W.nsIn K mainGlobals "all" = some none)
    (gB_bool : PySem.W.nsIn K mainGlobals "bool" = some none)
    (gB_gcd : PySem.W.nsIn K mainGlobals "gcd" = some (some (.builtin "math.gcd")))
    (gB_int : PySem.W.nsIn K mainGlobals "int" = some none)
    (gB_isinstance : PySem.W.nsIn K mainGlobals "isinstance" = some none)
    (gB_len : PySem.W.nsIn K mainGlobals "len" = some none)
    (gB_list : PySem.W.nsIn K mainGlobals "list" = some none)
    (gB_max : PySem.W.nsIn K mainGlobals "max" = some none)
    (gB_min : PySem.W.nsIn K mainGlobals "min" = some none)
    (gB_range : PySem.W.nsIn K mainGlobals "range" = some none)
    (gB_repr : PySem.W.nsIn K mainGlobals "repr" = some none)
    (gB_tuple : PySem.W.nsIn K mainGlobals "tuple" = some none)
    (a_is_whole : PySem.W.nsIn K mainGlobals "is_whole" = some (some (.ref f_is_whole)))
    (l_is_whole : K.lookup f_is_whole = some ⟨oc_is_whole, od_is_whole, .func (PySem.W.fnOf "is_whole" "is_whole" (defArgs sis_whole) (defBody sis_whole) (defScope sis_whole) .none kV_is_whole dc_is_whole pm_is_whole an_is_whole cd_is_whole ct_is_whole), sl_is_whole⟩)
    (c_is_whole : PySem.W.codeIn K cd_is_whole "is_whole" = true)
    (k_is_whole : PySem.W.keepIn K (.ref f_is_whole) = true)
    (a_is_tuple_of : PySem.W.nsIn K mainGlobals "is_tuple_of" = some (some (.ref f_is_tuple_of)))
    (l_is_tuple_of : K.lookup f_is_tuple_of = some ⟨oc_is_tuple_of, od_is_tuple_of, .func (PySem.W.fnOf "is_tuple_of" "is_tuple_of" (defArgs sis_tuple_of) (defBody sis_tuple_of) (defScope sis_tuple_of) .none kV_is_tuple_of dc_is_tuple_of pm_is_tuple_of an_is_tuple_of cd_is_tuple_of ct_is_tuple_of), sl_is_tuple_of⟩)
    (c_is_tuple_of : PySem.W.codeIn K cd_is_tuple_of "is_tuple_of" = true)
    (k_is_tuple_of : PySem.W.keepIn K (.ref f_is_tuple_of) = true)
    (a_is_moment : PySem.W.nsIn K mainGlobals "is_moment" = some (some (.ref f_is_moment)))
    (l_is_moment : K.lookup f_is_moment = some ⟨oc_is_moment, od_is_moment, .func (PySem.W.fnOf "is_moment" "is_moment" (defArgs sis_moment) (defBody sis_moment) (defScope sis_moment) .none kV_is_moment dc_is_moment pm_is_moment an_is_moment cd_is_moment ct_is_moment), sl_is_moment⟩)
    (c_is_moment : PySem.W.codeIn K cd_is_moment "is_moment" = true)
    (k_is_moment : PySem.W.keepIn K (.ref f_is_moment) = true)
    (a_is_edge : PySem.W.nsIn K mainGlobals "is_edge" = some (some (.ref f_is_edge)))
    (l_is_edge : K.lookup f_is_edge = some ⟨oc_is_edge, od_is_edge, .func (PySem.W.fnOf "is_edge" "is_edge" (defArgs sis_edge) (defBody sis_edge) (defScope sis_edge) .none kV_is_edge dc_is_edge pm_is_edge an_is_edge cd_is_edge ct_is_edge), sl_is_edge⟩)
    (c_is_edge : PySem.W.codeIn K cd_is_edge "is_edge" = true)
    (k_is_edge : PySem.W.keepIn K (.ref f_is_edge) = true)
    (a_is_span : PySem.W.nsIn K mainGlobals "is_span" = some (some (.ref f_is_span)))
    (l_is_span : K.lookup f_is_span = some ⟨oc_is_span, od_is_span, .func (PySem.W.fnOf "is_span" "is_span" (defArgs sis_span) (defBody sis_span) (defScope sis_span) .none kV_is_span dc_is_span pm_is_span an_is_span cd_is_span ct_is_span), sl_is_span⟩)
    (c_is_span : PySem.W.codeIn K cd_is_span "is_span" = true)
    (k_is_span : PySem.W.keepIn K (.ref f_is_span) = true)
    (a_has_moment : PySem.W.nsIn K mainGlobals "has_moment" = some (some (.ref f_has_moment)))
    (l_has_moment : K.lookup f_has_moment = some ⟨oc_has_moment, od_has_moment, .func (PySem.W.fnOf "has_moment" "has_moment" (defArgs shas_moment) (defBody shas_moment) (defScope shas_moment) .none kV_has_moment dc_has_moment pm_has_moment an_has_moment cd_has_moment ct_has_moment), sl_has_moment⟩)
    (c_has_moment : PySem.W.codeIn K cd_has_moment "has_moment" = true)
    (k_has_moment : PySem.W.keepIn K (.ref f_has_moment) = true)
    (a_is_cap : PySem.W.nsIn K mainGlobals "is_cap" = some (some (.ref f_is_cap)))
    (l_is_cap : K.lookup f_is_cap = some ⟨oc_is_cap, od_is_cap, .func (PySem.W.fnOf "is_cap" "is_cap" (defArgs sis_cap) (defBody sis_cap) (defScope sis_cap) .none kV_is_cap dc_is_cap pm_is_cap an_is_cap cd_is_cap ct_is_cap), sl_is_cap⟩)
    (c_is_cap : PySem.W.codeIn K cd_is_cap "is_cap" = true)
    (k_is_cap : PySem.W.keepIn K (.ref f_is_cap) = true)
    (a_is_table : PySem.W.nsIn K mainGlobals "is_table" = some (some (.ref f_is_table)))
    (l_is_table : K.lookup f_is_table = some ⟨oc_is_table, od_is_table, .func (PySem.W.fnOf "is_table" "is_table" (defArgs sis_table) (defBody sis_table) (defScope sis_table) .none kV_is_table dc_is_table pm_is_table an_is_table (.ref tc_is_table) ct_is_table), sl_is_table⟩)
    (c_is_table : PySem.W.codeIn K (.ref tc_is_table) "is_table" = true)
    (tk1_is_table : K.lookup tc_is_table = some ⟨.type "code", td_is_table, .fields tv_is_table, ts_is_table⟩)
    (tk2_is_table : tv_is_table[11]? = some (.ref tp_is_table))
    (tk3_is_table : K.lookup tp_is_table = none)
    (tk4_is_table : cdB tv_is_table tc_is_table tp_is_table = true)
    (tk5_is_table : tp_is_table ∈ tabs)
    (tk6_is_table : ((recsOf q).any fun e => e.name == "is_table") = true)
    (k_is_table : PySem.W.keepIn K (.ref f_is_table) = true)
    (a_is_table_row : PySem.W.nsIn K mainGlobals "is_table_row" = some (some (.ref f_is_table_row)))
    (l_is_table_row : K.lookup f_is_table_row = some ⟨oc_is_table_row, od_is_table_row, .func (PySem.W.fnOf "is_table_row" "is_table_row" (defArgs sis_table_row) (defBody sis_table_row) (defScope sis_table_row) .none kV_is_table_row dc_is_table_row pm_is_table_row an_is_table_row (.ref tc_is_table_row) ct_is_table_row), sl_is_table_row⟩)
    (c_is_table_row : PySem.W.codeIn K (.ref tc_is_table_row) "is_table_row" = true)
    (tk1_is_table_row : K.lookup tc_is_table_row = some ⟨.type "code", td_is_table_row, .fields tv_is_table_row, ts_is_table_row⟩)
    (tk2_is_table_row : tv_is_table_row[11]? = some (.ref tp_is_table_row))
    (tk3_is_table_row : K.lookup tp_is_table_row = none)
    (tk4_is_table_row : cdB tv_is_table_row tc_is_table_row tp_is_table_row = true)
    (tk5_is_table_row : tp_is_table_row ∈ tabs)
    (tk6_is_table_row : ((recsOf q).any fun e => e.name == "is_table_row") = true)
    (k_is_table_row : PySem.W.keepIn K (.ref f_is_table_row) = true)
    (a_is_readings : PySem.W.nsIn K mainGlobals "is_readings" = some (some (.ref f_is_readings)))
    (l_is_readings : K.lookup f_is_readings = some ⟨oc_is_readings, od_is_readings, .func (PySem.W.fnOf "is_readings" "is_readings" (defArgs sis_readings) (defBody sis_readings) (defScope sis_readings) .none kV_is_readings dc_is_readings pm_is_readings an_is_readings (.ref tc_is_readings) ct_is_readings), sl_is_readings⟩)
    (c_is_readings : PySem.W.codeIn K (.ref tc_is_readings) "is_readings" = true)
    (tk1_is_readings : K.lookup tc_is_readings = some ⟨.type "code", td_is_readings, .fields tv_is_readings, ts_is_readings⟩)
    (tk2_is_readings : tv_is_readings[11]? = some (.ref tp_is_readings))
    (tk3_is_readings : K.lookup tp_is_readings = none)
    (tk4_is_readings : cdB tv_is_readings tc_is_readings tp_is_readings = true)
    (tk5_is_readings : tp_is_readings ∈ tabs)
    (tk6_is_readings : ((recsOf q).any fun e => e.name == "is_readings") = true)
    (k_is_readings : PySem.W.keepIn K (.ref f_is_readings) = true)
    (a__law_box : PySem.W.nsIn K mainGlobals "_law_box" = some (some (.ref f__law_box)))
    (l__law_box : K.lookup f__law_box = some ⟨oc__law_box, od__law_box, .func (PySem.W.fnOf "_law_box" "_law_box" (defArgs s_law_box) (defBody s_law_box) (defScope s_law_box) .none kV__law_box dc__law_box pm__law_box an__law_box cd__law_box ct__law_box), sl__law_box⟩)
    (c__law_box : PySem.W.codeIn K cd__law_box "_law_box" = true)
    (k__law_box : PySem.W.keepIn K (.ref f__law_box) = true)
    (a__law_draw : PySem.W.nsIn K mainGlobals "_law_draw" = some (some (.ref f__law_draw)))
    (l__law_draw : K.lookup f__law_draw = some ⟨oc__law_draw, od__law_draw, .func (PySem.W.fnOf "_law_draw" "_law_draw" (defArgs s_law_draw) (defBody s_law_draw) (defScope s_law_draw) .none kV__law_draw dc__law_draw pm__law_draw an__law_draw cd__law_draw ct__law_draw), sl__law_draw⟩)
    (c__law_draw : PySem.W.codeIn K cd__law_draw "_law_draw" = true)
    (k__law_draw : PySem.W.keepIn K (.ref f__law_draw) = true)
    (a__law_pick : PySem.W.nsIn K mainGlobals "_law_pick" = some (some (.ref f__law_pick)))
    (l__law_pick : K.lookup f__law_pick = some ⟨oc__law_pick, od__law_pick, .func (PySem.W.fnOf "_law_pick" "_law_pick" (defArgs s_law_pick) (defBody s_law_pick) (defScope s_law_pick) .none kV__law_pick dc__law_pick pm__law_pick an__law_pick cd__law_pick ct__law_pick), sl__law_pick⟩)
    (c__law_pick : PySem.W.codeIn K cd__law_pick "_law_pick" = true)
    (k__law_pick : PySem.W.keepIn K (.ref f__law_pick) = true)
    (a__law_gcd : PySem.W.nsIn K mainGlobals "_law_gcd" = some (some (.ref f__law_gcd)))
    (l__law_gcd : K.lookup f__law_gcd = some ⟨oc__law_gcd, od__law_gcd, .func (PySem.W.fnOf "_law_gcd" "_law_gcd" (defArgs s_law_gcd) (defBody s_law_gcd) (defScope s_law_gcd) .none kV__law_gcd dc__law_gcd pm__law_gcd an__law_gcd cd__law_gcd ct__law_gcd), sl__law_gcd⟩)
    (c__law_gcd : PySem.W.codeIn K cd__law_gcd "_law_gcd" = true)
    (k__law_gcd : PySem.W.keepIn K (.ref f__law_gcd) = true)
    (a__law_wide : PySem.W.nsIn K mainGlobals "_law_wide" = some (some (.ref f__law_wide)))
    (l__law_wide : K.lookup f__law_wide = some ⟨oc__law_wide, od__law_wide, .func (PySem.W.fnOf "_law_wide" "_law_wide" (defArgs s_law_wide) (defBody s_law_wide) (defScope s_law_wide) .none kV__law_wide dc__law_wide pm__law_wide an__law_wide cd__law_wide ct__law_wide), sl__law_wide⟩)
    (c__law_wide : PySem.W.codeIn K cd__law_wide "_law_wide" = true)
    (k__law_wide : PySem.W.keepIn K (.ref f__law_wide) = true)
    (a__law_whole : PySem.W.nsIn K mainGlobals "_law_whole" = some (some (.ref f__law_whole)))
    (l__law_whole : K.lookup f__law_whole = some ⟨oc__law_whole, od__law_whole, .func (PySem.W.fnOf "_law_whole" "_law_whole" (defArgs s_law_whole) (defBody s_law_whole) (defScope s_law_whole) .none kV__law_whole dc__law_whole pm__law_whole an__law_whole cd__law_whole ct__law_whole), sl__law_whole⟩)
    (c__law_whole : PySem.W.codeIn K cd__law_whole "_law_whole" = true)
    (k__law_whole : PySem.W.keepIn K (.ref f__law_whole) = true)
    (a__law_moment : PySem.W.nsIn K mainGlobals "_law_moment" = some (some (.ref f__law_moment)))
    (l__law_moment : K.lookup f__law_moment = some ⟨oc__law_moment, od__law_moment, .func (PySem.W.fnOf "_law_moment" "_law_moment" (defArgs s_law_moment) (defBody s_law_moment) (defScope s_law_moment) .none kV__law_moment dc__law_moment pm__law_moment an__law_moment cd__law_moment ct__law_moment), sl__law_moment⟩)
    (c__law_moment : PySem.W.codeIn K cd__law_moment "_law_moment" = true)
    (k__law_moment : PySem.W.keepIn K (.ref f__law_moment) = true)
    (a__law_edge : PySem.W.nsIn K mainGlobals "_law_edge" = some (some (.ref f__law_edge)))
    (l__law_edge : K.lookup f__law_edge = some ⟨oc__law_edge, od__law_edge, .func (PySem.W.fnOf "_law_edge" "_law_edge" (defArgs s_law_edge) (defBody s_law_edge) (defScope s_law_edge) .none kV__law_edge dc__law_edge pm__law_edge an__law_edge cd__law_edge ct__law_edge), sl__law_edge⟩)
    (c__law_edge : PySem.W.codeIn K cd__law_edge "_law_edge" = true)
    (k__law_edge : PySem.W.keepIn K (.ref f__law_edge) = true)
    (a__law_cap : PySem.W.nsIn K mainGlobals "_law_cap" = some (some (.ref f__law_cap)))
    (l__law_cap : K.lookup f__law_cap = some ⟨oc__law_cap, od__law_cap, .func (PySem.W.fnOf "_law_cap" "_law_cap" (defArgs s_law_cap) (defBody s_law_cap) (defScope s_law_cap) .none kV__law_cap dc__law_cap pm__law_cap an__law_cap cd__law_cap ct__law_cap), sl__law_cap⟩)
    (c__law_cap : PySem.W.codeIn K cd__law_cap "_law_cap" = true)
    (k__law_cap : PySem.W.keepIn K (.ref f__law_cap) = true)
    (a__law_span : PySem.W.nsIn K mainGlobals "_law_span" = some (some (.ref f__law_span)))
    (l__law_span : K.lookup f__law_span = some ⟨oc__law_span, od__law_span, .func (PySem.W.fnOf "_law_span" "_law_span" (defArgs s_law_span) (defBody s_law_span) (defScope s_law_span) .none kV__law_span dc__law_span pm__law_span an__law_span cd__law_span ct__law_span), sl__law_span⟩)
    (c__law_span : PySem.W.codeIn K cd__law_span "_law_span" = true)
    (k__law_span : PySem.W.keepIn K (.ref f__law_span) = true)
    (a__law_row : PySem.W.nsIn K mainGlobals "_law_row" = some (some (.ref f__law_row)))
    (l__law_row : K.lookup f__law_row = some ⟨oc__law_row, od__law_row, .func (PySem.W.fnOf "_law_row" "_law_row" (defArgs s_law_row) (defBody s_law_row) (defScope s_law_row) .none kV__law_row dc__law_row pm__law_row an__law_row cd__law_row ct__law_row), sl__law_row⟩)
    (c__law_row : PySem.W.codeIn K cd__law_row "_law_row" = true)
    (k__law_row : PySem.W.keepIn K (.ref f__law_row) = true)
    (a__law_table : PySem.W.nsIn K mainGlobals "_law_table" = some (some (.ref f__law_table)))
    (l__law_table : K.lookup f__law_table = some ⟨oc__law_table, od__law_table, .func (PySem.W.fnOf "_law_table" "_law_table" (defArgs s_law_table) (defBody s_law_table) (defScope s_law_table) .none kV__law_table dc__law_table pm__law_table an__law_table cd__law_table ct__law_table), sl__law_table⟩)
    (c__law_table : PySem.W.codeIn K cd__law_table "_law_table" = true)
    (k__law_table : PySem.W.keepIn K (.ref f__law_table) = true)
    (a__law_readings : PySem.W.nsIn K mainGlobals "_law_readings" = some (some (.ref f__law_readings)))
    (l__law_readings : K.lookup f__law_readings = some ⟨oc__law_readings, od__law_readings, .func (PySem.W.fnOf "_law_readings" "_law_readings" (defArgs s_law_readings) (defBody s_law_readings) (defScope s_law_readings) .none kV__law_readings dc__law_readings pm__law_readings an__law_readings cd__law_readings ct__law_readings), sl__law_readings⟩)
    (c__law_readings : PySem.W.codeIn K cd__law_readings "_law_readings" = true)
    (k__law_readings : PySem.W.keepIn K (.ref f__law_readings) = true)
    (a__law_good_moment : PySem.W.nsIn K mainGlobals "_law_good_moment" = some (some (.ref f__law_good_moment)))
    (l__law_good_moment : K.lookup f__law_good_moment = some ⟨oc__law_good_moment, od__law_good_moment, .func (PySem.W.fnOf "_law_good_moment" "_law_good_moment" (defArgs s_law_good_moment) (defBody s_law_good_moment) (defScope s_law_good_moment) .none kV__law_good_moment dc__law_good_moment pm__law_good_moment an__law_good_moment cd__law_good_moment ct__law_good_moment), sl__law_good_moment⟩)
    (c__law_good_moment : PySem.W.codeIn K cd__law_good_moment "_law_good_moment" = true)
    (k__law_good_moment : PySem.W.keepIn K (.ref f__law_good_moment) = true)
    (a__law_good_span : PySem.W.nsIn K mainGlobals "_law_good_span" = some (some (.ref f__law_good_span)))
    (l__law_good_span : K.lookup f__law_good_span = some ⟨oc__law_good_span, od__law_good_span, .func (PySem.W.fnOf "_law_good_span" "_law_good_span" (defArgs s_law_good_span) (defBody s_law_good_span) (defScope s_law_good_span) .none kV__law_good_span dc__law_good_span pm__law_good_span an__law_good_span cd__law_good_span ct__law_good_span), sl__law_good_span⟩)
    (c__law_good_span : PySem.W.codeIn K cd__law_good_span "_law_good_span" = true)
    (k__law_good_span : PySem.W.keepIn K (.ref f__law_good_span) = true)
    (a__law_good_cap : PySem.W.nsIn K mainGlobals "_law_good_cap" = some (some (.ref f__law_good_cap)))
    (l__law_good_cap : K.lookup f__law_good_cap = some ⟨oc__law_good_cap, od__law_good_cap, .func (PySem.W.fnOf "_law_good_cap" "_law_good_cap" (defArgs s_law_good_cap) (defBody s_law_good_cap) (defScope s_law_good_cap) .none kV__law_good_cap dc__law_good_cap pm__law_good_cap an__law_good_cap cd__law_good_cap ct__law_good_cap), sl__law_good_cap⟩)
    (c__law_good_cap : PySem.W.codeIn K cd__law_good_cap "_law_good_cap" = true)
    (k__law_good_cap : PySem.W.keepIn K (.ref f__law_good_cap) = true)
    (a__law_good : PySem.W.nsIn K mainGlobals "_law_good" = some (some (.ref f__law_good)))
    (l__law_good : K.lookup f__law_good = some ⟨oc__law_good, od__law_good, .func (PySem.W.fnOf "_law_good" "_law_good" (defArgs s_law_good) (defBody s_law_good) (defScope s_law_good) .none kV__law_good dc__law_good pm__law_good an__law_good cd__law_good ct__law_good), sl__law_good⟩)
    (c__law_good : PySem.W.codeIn K cd__law_good "_law_good" = true)
    (k__law_good : PySem.W.keepIn K (.ref f__law_good) = true)
    (a__law_odd : PySem.W.nsIn K mainGlobals "_law_odd" = some (some (.ref f__law_odd)))
    (l__law_odd : K.lookup f__law_odd = some ⟨oc__law_odd, od__law_odd, .func (PySem.W.fnOf "_law_odd" "_law_odd" (defArgs s_law_odd) (defBody s_law_odd) (defScope s_law_odd) .none kV__law_odd dc__law_odd pm__law_odd an__law_odd cd__law_odd ct__law_odd), sl__law_odd⟩)
    (c__law_odd : PySem.W.codeIn K cd__law_odd "_law_odd" = true)
    (k__law_odd : PySem.W.keepIn K (.ref f__law_odd) = true)
    (a__law_bent : PySem.W.nsIn K mainGlobals "_law_bent" = some (some (.ref f__law_bent)))
    (l__law_bent : K.lookup f__law_bent = some ⟨oc__law_bent, od__law_bent, .func (PySem.W.fnOf "_law_bent" "_law_bent" (defArgs s_law_bent) (defBody s_law_bent) (defScope s_law_bent) .none kV__law_bent dc__law_bent pm__law_bent an__law_bent cd__law_bent ct__law_bent), sl__law_bent⟩)
    (c__law_bent : PySem.W.codeIn K cd__law_bent "_law_bent" = true)
    (k__law_bent : PySem.W.keepIn K (.ref f__law_bent) = true)
    (a__law_told : PySem.W.nsIn K mainGlobals "_law_told" = some (some (.ref f__law_told)))
    (l__law_told : K.lookup f__law_told = some ⟨oc__law_told, od__law_told, .func (PySem.W.fnOf "_law_told" "_law_told" (defArgs s_law_told) (defBody s_law_told) (defScope s_law_told) .none kV__law_told dc__law_told pm__law_told an__law_told cd__law_told ct__law_told), sl__law_told⟩)
    (c__law_told : PySem.W.codeIn K cd__law_told "_law_told" = true)
    (k__law_told : PySem.W.keepIn K (.ref f__law_told) = true)
    (a__law_judged : PySem.W.nsIn K mainGlobals "_law_judged" = some (some (.ref f__law_judged)))
    (l__law_judged : K.lookup f__law_judged = some ⟨oc__law_judged, od__law_judged, .func (PySem.W.fnOf "_law_judged" "_law_judged" (defArgs s_law_judged) (defBody s_law_judged) (defScope s_law_judged) .none kV__law_judged dc__law_judged pm__law_judged an__law_judged cd__law_judged ct__law_judged), sl__law_judged⟩)
    (c__law_judged : PySem.W.codeIn K cd__law_judged "_law_judged" = true)
    (k__law_judged : PySem.W.keepIn K (.ref f__law_judged) = true)
    (a_law : PySem.W.nsIn K mainGlobals "law" = some (some (.ref f_law)))
    (l_law : K.lookup f_law = some ⟨oc_law, od_law, .func (PySem.W.fnOf "law" "law" (defArgs slaw) (defBody slaw) (defScope slaw) .none kV_law dc_law pm_law an_law cd_law ct_law), sl_law⟩)
    (c_law : PySem.W.codeIn K cd_law "law" = true)
    (k_law : PySem.W.keepIn K (.ref f_law) = true)
    (htabs : tabs = [tp_is_readings, tp_is_table, tp_is_table_row])
    : ∃ (fd : FuncData) (cs : List (Addr × Addr)), (∀ P ∈ tabs, ∃ p ∈ cs, p.2 = P) ∧ (∀ p ∈ cs, TabOf q K mg p) ∧ (∀ (s : Shared) (v : Value), BindsTo s fd ⟨[v], []⟩ [("script", v)]) ∧
      ∀ base : Heap, K.In base → base.Ns mainGlobals mg → (∀ p ∈ cs, GxR.TabB base mg p.1 p.2) → FnG P w K mg base (L2N.CX P w) 13 fa fd ["script"] (spLaw K) := by
  have e : fa = f_law := Value.ref.inj (Option.some.inj (hfa.symm.trans (PySem.W.mg_of X G a_law)))
  let T : Tx K mg := {
    b_all := PySem.W.mg_none_of X G gB_all,
    b_bool := PySem.W.mg_none_of X G gB_bool,
    b_gcd := PySem.W.mg_of X G gB_gcd,
    b_int := PySem.W.mg_none_of X G gB_int,
    b_isinstance := PySem.W.mg_none_of X G gB_isinstance,
    b_len := PySem.W.mg_none_of X G gB_len,
    b_list := PySem.W.mg_none_of X G gB_list,
    b_max := PySem.W.mg_none_of X G gB_max,
    b_min := PySem.W.mg_none_of X G gB_min,
    b_range := PySem.W.mg_none_of X G gB_range,
    b_repr := PySem.W.mg_none_of X G gB_repr,
    b_tuple := PySem.W.mg_none_of X G gB_tuple,
    a_is_whole := f_is_whole,
    d_is_whole := PySem.W.fnOf "is_whole" "is_whole" (defArgs sis_whole) (defBody sis_whole) (defScope sis_whole) .none kV_is_whole dc_is_whole pm_is_whole an_is_whole cd_is_whole ct_is_whole,
    g_is_whole := PySem.W.mg_of X G a_is_whole,
    u_is_whole := fun_mk l_is_whole c_is_whole k_is_whole,
    k_is_whole := k_is_whole,
    a_is_tuple_of := f_is_tuple_of,
    d_is_tuple_of := PySem.W.fnOf "is_tuple_of" "is_tuple_of" (defArgs sis_tuple_of) (defBody sis_tuple_of) (defScope sis_tuple_of) .none kV_is_tuple_of dc_is_tuple_of pm_is_tuple_of an_is_tuple_of cd_is_tuple_of ct_is_tuple_of,
    g_is_tuple_of := PySem.W.mg_of X G a_is_tuple_of,
    u_is_tuple_of := fun_mk l_is_tuple_of c_is_tuple_of k_is_tuple_of,
    k_is_tuple_of := k_is_tuple_of,
    a_is_moment := f_is_moment,
    d_is_moment := PySem.W.fnOf "is_moment" "is_moment" (defArgs sis_moment) (defBody sis_moment) (defScope sis_moment) .none kV_is_moment dc_is_moment pm_is_moment an_is_moment cd_is_moment ct_is_moment,
    g_is_moment := PySem.W.mg_of X G a_is_moment,
    u_is_moment := fun_mk l_is_moment c_is_moment k_is_moment,
    k_is_moment := k_is_moment,
    a_is_edge := f_is_edge,
    d_is_edge := PySem.W.fnOf "is_edge" "is_edge" (defArgs sis_edge) (defBody sis_edge) (defScope sis_edge) .none kV_is_edge dc_is_edge pm_is_edge an_is_edge cd_is_edge ct_is_edge,
    g_is_edge := PySem.W.mg_of X G a_is_edge,
    u_is_edge := fun_mk l_is_edge c_is_edge k_is_edge,
    k_is_edge := k_is_edge,
    a_is_span := f_is_span,
    d_is_span := PySem.W.fnOf "is_span" "is_span" (defArgs sis_span) (defBody sis_span) (defScope sis_span) .none kV_is_span dc_is_span pm_is_span an_is_span cd_is_span ct_is_span,
    g_is_span := PySem.W.mg_of X G a_is_span,
    u_is_span := fun_mk l_is_span c_is_span k_is_span,
    k_is_span := k_is_span,
    a_has_moment := f_has_moment,
    d_has_moment := PySem.W.fnOf "has_moment" "has_moment" (defArgs shas_moment) (defBody shas_moment) (defScope shas_moment) .none kV_has_moment dc_has_moment pm_has_moment an_has_moment cd_has_moment ct_has_moment,
    g_has_moment := PySem.W.mg_of X G a_has_moment,
    u_has_moment := fun_mk l_has_moment c_has_moment k_has_moment,
    k_has_moment := k_has_moment,
    a_is_cap := f_is_cap,
    d_is_cap := PySem.W.fnOf "is_cap" "is_cap" (defArgs sis_cap) (defBody sis_cap) (defScope sis_cap) .none kV_is_cap dc_is_cap pm_is_cap an_is_cap cd_is_cap ct_is_cap,
    g_is_cap := PySem.W.mg_of X G a_is_cap,
    u_is_cap := fun_mk l_is_cap c_is_cap k_is_cap,
    k_is_cap := k_is_cap,
    a_is_table := f_is_table,
    d_is_table := PySem.W.fnOf "is_table" "is_table" (defArgs sis_table) (defBody sis_table) (defScope sis_table) .none kV_is_table dc_is_table pm_is_table an_is_table (.ref tc_is_table) ct_is_table,
    g_is_table := PySem.W.mg_of X G a_is_table,
    u_is_table := fun_mk l_is_table c_is_table k_is_table,
    k_is_table := k_is_table,
    tc_is_table := tc_is_table,
    tp_is_table := tp_is_table,
    hc_is_table := rfl,
    tm_is_table := tk5_is_table,
    a_is_table_row := f_is_table_row,
    d_is_table_row := PySem.W.fnOf "is_table_row" "is_table_row" (defArgs sis_table_row) (defBody sis_table_row) (defScope sis_table_row) .none kV_is_table_row dc_is_table_row pm_is_table_row an_is_table_row (.ref tc_is_table_row) ct_is_table_row,
    g_is_table_row := PySem.W.mg_of X G a_is_table_row,
    u_is_table_row := fun_mk l_is_table_row c_is_table_row k_is_table_row,
    k_is_table_row := k_is_table_row,
    tc_is_table_row := tc_is_table_row,
    tp_is_table_row := tp_is_table_row,
    hc_is_table_row := rfl,
    tm_is_table_row := tk5_is_table_row,
    a_is_readings := f_is_readings,
    d_is_readings := PySem.W.fnOf "is_readings" "is_readings" (defArgs sis_readings) (defBody sis_readings) (defScope sis_readings) .none kV_is_readings dc_is_readings pm_is_readings an_is_readings (.ref tc_is_readings) ct_is_readings,
    g_is_readings := PySem.W.mg_of X G a_is_readings,
    u_is_readings := fun_mk l_is_readings c_is_readings k_is_readings,
    k_is_readings := k_is_readings,
    tc_is_readings := tc_is_readings,
    tp_is_readings := tp_is_readings,
    hc_is_readings := rfl,
    tm_is_readings := tk5_is_readings,
    a__law_box := f__law_box,
    d__law_box := PySem.W.fnOf "_law_box" "_law_box" (defArgs s_law_box) (defBody s_law_box) (defScope s_law_box) .none kV__law_box dc__law_box pm__law_box an__law_box cd__law_box ct__law_box,
    g__law_box := PySem.W.mg_of X G a__law_box,
    u__law_box := fun_mk l__law_box c__law_box k__law_box,
    k__law_box := k__law_box,
    a__law_draw := f__law_draw,
    d__law_draw := PySem.W.fnOf "_law_draw" "_law_draw" (defArgs s_law_draw) (defBody s_law_draw) (defScope s_law_draw) .none kV__law_draw dc__law_draw pm__law_draw an__law_draw cd__law_draw ct__law_draw,
    g__law_draw := PySem.W.mg_of X G a__law_draw,
    u__law_draw := fun_mk l__law_draw c__law_draw k__law_draw,
    k__law_draw := k__law_draw,
    a__law_pick := f__law_pick,
    d__law_pick := PySem.W.fnOf "_law_pick" "_law_pick" (defArgs s_law_pick) (defBody s_law_pick) (defScope s_law_pick) .none kV__law_pick dc__law_pick pm__law_pick an__law_pick cd__law_pick ct__law_pick,
    g__law_pick := PySem.W.mg_of X G a__law_pick,
    u__law_pick := fun_mk l__law_pick c__law_pick k__law_pick,
    k__law_pick := k__law_pick,
    a__law_gcd := f__law_gcd,
    d__law_gcd := PySem.W.fnOf "_law_gcd" "_law_gcd" (defArgs s_law_gcd) (defBody s_law_gcd) (defScope s_law_gcd) .none kV__law_gcd dc__law_gcd pm__law_gcd an__law_gcd cd__law_gcd ct__law_gcd,
    g__law_gcd := PySem.W.mg_of X G a__law_gcd,
    u__law_gcd := fun_mk l__law_gcd c__law_gcd k__law_gcd,
    k__law_gcd := k__law_gcd,
    a__law_wide := f__law_wide,
    d__law_wide := PySem.W.fnOf "_law_wide" "_law_wide" (defArgs s_law_wide) (defBody s_law_wide) (defScope s_law_wide) .none kV__law_wide dc__law_wide pm__law_wide an__law_wide cd__law_wide ct__law_wide,
    g__law_wide := PySem.W.mg_of X G a__law_wide,
    u__law_wide := fun_mk l__law_wide c__law_wide k__law_wide,
    k__law_wide := k__law_wide,
    a__law_whole := f__law_whole,
    d__law_whole := PySem.W.fnOf "_law_whole" "_law_whole" (defArgs s_law_whole) (defBody s_law_whole) (defScope s_law_whole) .none kV__law_whole dc__law_whole pm__law_whole an__law_whole cd__law_whole ct__law_whole,
    g__law_whole := PySem.W.mg_of X G a__law_whole,
    u__law_whole := fun_mk l__law_whole c__law_whole k__law_whole,
    k__law_whole := k__law_whole,
    a__law_moment := f__law_moment,
    d__law_moment := PySem.W.fnOf "_law_moment" "_law_moment" (defArgs s_law_moment) (defBody s_law_moment) (defScope s_law_moment) .none kV__law_moment dc__law_moment pm__law_moment an__law_moment cd__law_moment ct__law_moment,
    g__law_moment := PySem.W.mg_of X G a__law_moment,
    u__law_moment := fun_mk l__law_moment c__law_moment k__law_moment,
    k__law_moment := k__law_moment,
    a__law_edge := f__law_edge,
    d__law_edge := PySem.W.fnOf "_law_edge" "_law_edge" (defArgs s_law_edge) (defBody s_law_edge) (defScope s_law_edge) .none kV__law_edge dc__law_edge pm__law_edge an__law_edge cd__law_edge ct__law_edge,
    g__law_edge := PySem.W.mg_of X G a__law_edge,
    u__law_edge := fun_mk l__law_edge c__law_edge k__law_edge,
    k__law_edge := k__law_edge,
    a__law_cap := f__law_cap,
    d__law_cap := PySem.W.fnOf "_law_cap" "_law_cap" (defArgs s_law_cap) (defBody s_law_cap) (defScope s_law_cap) .none kV__law_cap dc__law_cap pm__law_cap an__law_cap cd__law_cap ct__law_cap,
    g__law_cap := PySem.W.mg_of X G a__law_cap,
    u__law_cap := fun_mk l__law_cap c__law_cap k__law_cap,
    k__law_cap := k__law_cap,
    a__law_span := f__law_span,
    d__law_span := PySem.W.fnOf "_law_span" "_law_span" (defArgs s_law_span) (defBody s_law_span) (defScope s_law_span) .none kV__law_span dc__law_span pm__law_span an__law_span cd__law_span ct__law_span,
    g__law_span := PySem.W.mg_of X G a__law_span,
    u__law_span := fun_mk l__law_span c__law_span k__law_span,
    k__law_span := k__law_span,
    a__law_row := f__law_row,
    d__law_row := PySem.W.fnOf "_law_row" "_law_row" (defArgs s_law_row) (defBody s_law_row) (defScope s_law_row) .none kV__law_row dc__law_row pm__law_row an__law_row cd__law_row ct__law_row,
    g__law_row := PySem.W.mg_of X G a__law_row,
    u__law_row := fun_mk l__law_row c__law_row k__law_row,
    k__law_row := k__law_row,
    a__law_table := f__law_table,
    d__law_table := PySem.W.fnOf "_law_table" "_law_table" (defArgs s_law_table) (defBody s_law_table) (defScope s_law_table) .none kV__law_table dc__law_table pm__law_table an__law_table cd__law_table ct__law_table,
    g__law_table := PySem.W.mg_of X G a__law_table,
    u__law_table := fun_mk l__law_table c__law_table k__law_table,
    k__law_table := k__law_table,
    a__law_readings := f__law_readings,
    d__law_readings := PySem.W.fnOf "_law_readings" "_law_readings" (defArgs s_law_readings) (defBody s_law_readings) (defScope s_law_readings) .none kV__law_readings dc__law_readings pm__law_readings an__law_readings cd__law_readings ct__law_readings,
    g__law_readings := PySem.W.mg_of X G a__law_readings,
    u__law_readings := fun_mk l__law_readings c__law_readings k__law_readings,
    k__law_readings := k__law_readings,
    a__law_good_moment := f__law_good_moment,
    d__law_good_moment := PySem.W.fnOf "_law_good_moment" "_law_good_moment" (defArgs s_law_good_moment) (defBody s_law_good_moment) (defScope s_law_good_moment) .none kV__law_good_moment dc__law_good_moment pm__law_good_moment an__law_good_moment cd__law_good_moment ct__law_good_moment,
    g__law_good_moment := PySem.W.mg_of X G a__law_good_moment,
    u__law_good_moment := fun_mk l__law_good_moment c__law_good_moment k__law_good_moment,
    k__law_good_moment := k__law_good_moment,
    a__law_good_span := f__law_good_span,
    d__law_good_span := PySem.W.fnOf "_law_good_span" "_law_good_span" (defArgs s_law_good_span) (defBody s_law_good_span) (defScope s_law_good_span) .none kV__law_good_span dc__law_good_span pm__law_good_span an__law_good_span cd__law_good_span ct__law_good_span,
    g__law_good_span := PySem.W.mg_of X G a__law_good_span,
    u__law_good_span := fun_mk l__law_good_span c__law_good_span k__law_good_span,
    k__law_good_span := k__law_good_span,
    a__law_good_cap := f__law_good_cap,
    d__law_good_cap := PySem.W.fnOf "_law_good_cap" "_law_good_cap" (defArgs s_law_good_cap) (defBody s_law_good_cap) (defScope s_law_good_cap) .none kV__law_good_cap dc__law_good_cap pm__law_good_cap an__law_good_cap cd__law_good_cap ct__law_good_cap,
    g__law_good_cap := PySem.W.mg_of X G a__law_good_cap,
    u__law_good_cap := fun_mk l__law_good_cap c__law_good_cap k__law_good_cap,
    k__law_good_cap := k__law_good_cap,
    a__law_good := f__law_good,
    d__law_good := PySem.W.fnOf "_law_good" "_law_good" (defArgs s_law_good) (defBody s_law_good) (defScope s_law_good) .none kV__law_good dc__law_good pm__law_good an__law_good cd__law_good ct__law_good,
    g__law_good := PySem.W.mg_of X G a__law_good,
    u__law_good := fun_mk l__law_good c__law_good k__law_good,
    k__law_good := k__law_good,
    a__law_odd := f__law_odd,
    d__law_odd := PySem.W.fnOf "_law_odd" "_law_odd" (defArgs s_law_odd) (defBody s_law_odd) (defScope s_law_odd) .none kV__law_odd dc__law_odd pm__law_odd an__law_odd cd__law_odd ct__law_odd,
    g__law_odd := PySem.W.mg_of X G a__law_odd,
    u__law_odd := fun_mk l__law_odd c__law_odd k__law_odd,
    k__law_odd := k__law_odd,
    a__law_bent := f__law_bent,
    d__law_bent := PySem.W.fnOf "_law_bent" "_law_bent" (defArgs s_law_bent) (defBody s_law_bent) (defScope s_law_bent) .none kV__law_bent dc__law_bent pm__law_bent an__law_bent cd__law_bent ct__law_bent,
    g__law_bent := PySem.W.mg_of X G a__law_bent,
    u__law_bent := fun_mk l__law_bent c__law_bent k__law_bent,
    k__law_bent := k__law_bent,
    a__law_told := f__law_told,
    d__law_told := PySem.W.fnOf "_law_told" "_law_told" (defArgs s_law_told) (defBody s_law_told) (defScope s_law_told) .none kV__law_told dc__law_told pm__law_told an__law_told cd__law_told ct__law_told,
    g__law_told := PySem.W.mg_of X G a__law_told,
    u__law_told := fun_mk l__law_told c__law_told k__law_told,
    k__law_told := k__law_told,
    a__law_judged := f__law_judged,
    d__law_judged := PySem.W.fnOf "_law_judged" "_law_judged" (defArgs s_law_judged) (defBody s_law_judged) (defScope s_law_judged) .none kV__law_judged dc__law_judged pm__law_judged an__law_judged cd__law_judged ct__law_judged,
    g__law_judged := PySem.W.mg_of X G a__law_judged,
    u__law_judged := fun_mk l__law_judged c__law_judged k__law_judged,
    k__law_judged := k__law_judged,
    a_law := f_law,
    d_law := PySem.W.fnOf "law" "law" (defArgs slaw) (defBody slaw) (defScope slaw) .none kV_law dc_law pm_law an_law cd_law ct_law,
    g_law := PySem.W.mg_of X G a_law,
    u_law := fun_mk l_law c_law k_law,
    k_law := k_law }
  refine ⟨T.d_law, [(tc_is_readings, tp_is_readings), (tc_is_table, tp_is_table), (tc_is_table_row, tp_is_table_row)], fun P hP => ?_, fun p hp => ?_, fun s v => .of_eq rfl, fun base _ _ tb => ?_⟩
  · rw [htabs] at hP
    simp only [List.mem_cons, List.not_mem_nil, or_false] at hP
    rcases hP with h | h | h
    · exact ⟨(tc_is_readings, tp_is_readings), by simp, h.symm⟩
    · exact ⟨(tc_is_table, tp_is_table), by simp, h.symm⟩
    · exact ⟨(tc_is_table_row, tp_is_table_row), by simp, h.symm⟩
  · simp only [List.mem_cons, List.not_mem_nil, or_false] at hp
    rcases hp with rfl | rfl | rfl
    · exact ⟨"is_readings", f_is_readings, _, _, _, _, _, _, tk6_is_readings, PySem.W.mg_of X G a_is_readings, l_is_readings, rfl, rfl, tk1_is_readings, tk2_is_readings, tk3_is_readings, codeHd_by tk1_is_readings tk4_is_readings⟩
    · exact ⟨"is_table", f_is_table, _, _, _, _, _, _, tk6_is_table, PySem.W.mg_of X G a_is_table, l_is_table, rfl, rfl, tk1_is_table, tk2_is_table, tk3_is_table, codeHd_by tk1_is_table tk4_is_table⟩
    · exact ⟨"is_table_row", f_is_table_row, _, _, _, _, _, _, tk6_is_table_row, PySem.W.mg_of X G a_is_table_row, l_is_table_row, rfl, rfl, tk1_is_table_row, tk2_is_table_row, tk3_is_table_row, codeHd_by tk1_is_table_row tk4_is_table_row⟩
  · have U : Tb T base := ⟨tb (tc_is_readings, tp_is_readings) (by simp), tb (tc_is_table, tp_is_table) (by simp), tb (tc_is_table_row, tp_is_table_row) (by simp)⟩
    rw [e]
    exact (ok_law T U).imp (law_sp hF)
end K02
end

section
set_option Elab.async false
set_option maxRecDepth 100000
open PySem PySem.W PyProof.Rows in
set_option maxRecDepth 100000 in
set_option maxHeartbeats 0 in
theorem PySem.Challenge.cw_bellrest_k02_judges_of_values_holds : PySem.Challenge.rw_bellrest_k02_judges_of_values.Holds := by
  w_on; o_law; k_head; (case hw => w_witness2)
  k_fill
  refine Z.walk_ZT (l := PySem.Challenge.rw_bellrest_k02_judges_of_values) (k := 13) rfl rfl ⟨rfl, by decide, by decide⟩ (fun w h Y => PySem.W.kIn_of Y) ?F
  case F =>
    intro w mg fa h KX G hmg
    refine' K02.all_mk KX G hmg K02.holds ?gB_all ?gB_bool ?gB_gcd ?gB_int ?gB_isinstance ?gB_len ?gB_list ?gB_max ?gB_min ?gB_range ?gB_repr ?gB_tuple ?a_is_whole ?l_is_whole ?c_is_whole ?k_is_whole ?a_is_tuple_of ?l_is_tuple_of ?c_is_tuple_of ?k_is_tuple_of ?a_is_moment ?l_is_moment ?c_is_moment ?k_is_moment ?a_is_edge ?l_is_edge ?c_is_edge ?k_is_edge ?a_is_span ?l_is_span ?c_is_span ?k_is_span ?a_has_moment ?l_has_moment ?c_has_moment ?k_has_moment ?a_is_cap ?l_is_cap ?c_is_cap ?k_is_cap ?a_is_table ?l_is_table ?c_is_table ?tk1_is_table ?tk2_is_table ?tk3_is_table ?tk4_is_table ?tk5_is_table ?tk6_is_table ?k_is_table ?a_is_table_row ?l_is_table_row ?c_is_table_row ?tk1_is_table_row ?tk2_is_table_row ?tk3_is_table_row ?tk4_is_table_row ?tk5_is_table_row ?tk6_is_table_row ?k_is_table_row ?a_is_readings ?l_is_readings ?c_is_readings ?tk1_is_readings ?tk2_is_readings ?tk3_is_readings ?tk4_is_readings ?tk5_is_readings ?tk6_is_readings ?k_is_readings ?a__law_box ?l__law_box ?c__law_box ?k__law_box ?a__law_draw ?l__law_draw ?c__law_draw ?k__law_draw ?a__law_pick ?l__law_pick ?c__law_pick ?k__law_pick ?a__law_gcd ?l__law_gcd ?c__law_gcd ?k__law_gcd ?a__law_wide ?l__law_wide ?c__law_wide ?k__law_wide ?a__law_whole ?l__law_whole ?c__law_whole ?k__law_whole ?a__law_moment ?l__law_moment ?c__law_moment ?k__law_moment ?a__law_edge ?l__law_edge ?c__law_edge ?k__law_edge ?a__law_cap ?l__law_cap ?c__law_cap ?k__law_cap ?a__law_span ?l__law_span ?c__law_span ?k__law_span ?a__law_row ?l__law_row ?c__law_row ?k__law_row ?a__law_table ?l__law_table ?c__law_table ?k__law_table ?a__law_readings ?l__law_readings ?c__law_readings ?k__law_readings ?a__law_good_moment ?l__law_good_moment ?c__law_good_moment ?k__law_good_moment ?a__law_good_span ?l__law_good_span ?c__law_good_span ?k__law_good_span ?a__law_good_cap ?l__law_good_cap ?c__law_good_cap ?k__law_good_cap ?a__law_good ?l__law_good ?c__law_good ?k__law_good ?a__law_odd ?l__law_odd ?c__law_odd ?k__law_odd ?a__law_bent ?l__law_bent ?c__law_bent ?k__law_bent ?a__law_told ?l__law_told ?c__law_told ?k__law_told ?a__law_judged ?l__law_judged ?c__law_judged ?k__law_judged ?a_law ?l_law ?c_law ?k_law ?htabs
    (case gB_all => k_is)
    (case gB_bool => k_is)
    (case gB_gcd => k_is)
    (case gB_int => k_is)
    (case gB_isinstance => k_is)
    (case gB_len => k_is)
    (case gB_list => k_is)
    (case gB_max => k_is)
    (case gB_min => k_is)
    (case gB_range => k_is)
    (case gB_repr => k_is)
    (case gB_tuple => k_is)
    (case a_is_whole => k_is)
    (case l_is_whole => k_is)
    (case c_is_whole => k_is)
    (case k_is_whole => k_is)
    (case a_is_tuple_of => k_is)
    (case l_is_tuple_of => k_is)
    (case c_is_tuple_of => k_is)
    (case k_is_tuple_of => k_is)
    (case a_is_moment => k_is)
    (case l_is_moment => k_is)
    (case c_is_moment => k_is)
    (case k_is_moment => k_is)
    (case a_is_edge => k_is)
    (case l_is_edge => k_is)
    (case c_is_edge => k_is)
    (case k_is_edge => k_is)
    (case a_is_span => k_is)
    (case l_is_span => k_is)
    (case c_is_span => k_is)
    (case k_is_span => k_is)
    (case a_has_moment => k_is)
    (case l_has_moment => k_is)
    (case c_has_moment => k_is)
    (case k_has_moment => k_is)
    (case a_is_cap => k_is)
    (case l_is_cap => k_is)
    (case c_is_cap => k_is)
    (case k_is_cap => k_is)
    (case a_is_table => k_is)
    (case l_is_table => k_is)
    (case c_is_table => k_is)
    (case tk1_is_table => k_is)
    (case tk2_is_table => rfl)
    (case tk3_is_table => first | rfl | decide +kernel)
    (case tk4_is_table => first | rfl | decide +kernel)
    (case tk5_is_table => decide)
    (case tk6_is_table => decide +kernel)
    (case k_is_table => k_is)
    (case a_is_table_row => k_is)
    (case l_is_table_row => k_is)
    (case c_is_table_row => k_is)
    (case tk1_is_table_row => k_is)
    (case tk2_is_table_row => rfl)
    (case tk3_is_table_row => first | rfl | decide +kernel)
    (case tk4_is_table_row => first | rfl | decide +kernel)
    (case tk5_is_table_row => decide)
    (case tk6_is_table_row => decide +kernel)
    (case k_is_table_row => k_is)
    (case a_is_readings => k_is)
    (case l_is_readings => k_is)
    (case c_is_readings => k_is)
    (case tk1_is_readings => k_is)
    (case tk2_is_readings => rfl)
    (case tk3_is_readings => first | rfl | decide +kernel)
    (case tk4_is_readings => first | rfl | decide +kernel)
    (case tk5_is_readings => decide)
    (case tk6_is_readings => decide +kernel)
    (case k_is_readings => k_is)
    (case a__law_box => k_is)
    (case l__law_box => k_is)
    (case c__law_box => k_is)
    (case k__law_box => k_is)
    (case a__law_draw => k_is)
    (case l__law_draw => k_is)
    (case c__law_draw => k_is)
    (case k__law_draw => k_is)
    (case a__law_pick => k_is)
    (case l__law_pick => k_is)
    (case c__law_pick => k_is)
    (case k__law_pick => k_is)
    (case a__law_gcd => k_is)
    (case l__law_gcd => k_is)
    (case c__law_gcd => k_is)
    (case k__law_gcd => k_is)
    (case a__law_wide => k_is)
    (case l__law_wide => k_is)
    (case c__law_wide => k_is)
    (case k__law_wide => k_is)
    (case a__law_whole => k_is)
    (case l__law_whole => k_is)
    (case c__law_whole => k_is)
    (case k__law_whole => k_is)
    (case a__law_moment => k_is)
    (case l__law_moment => k_is)
    (case c__law_moment => k_is)
    (case k__law_moment => k_is)
    (case a__law_edge => k_is)
    (case l__law_edge => k_is)
    (case c__law_edge => k_is)
    (case k__law_edge => k_is)
    (case a__law_cap => k_is)
    (case l__law_cap => k_is)
    (case c__law_cap => k_is)
    (case k__law_cap => k_is)
    (case a__law_span => k_is)
    (case l__law_span => k_is)
    (case c__law_span => k_is)
    (case k__law_span => k_is)
    (case a__law_row => k_is)
    (case l__law_row => k_is)
    (case c__law_row => k_is)
    (case k__law_row => k_is)
    (case a__law_table => k_is)
    (case l__law_table => k_is)
    (case c__law_table => k_is)
    (case k__law_table => k_is)
    (case a__law_readings => k_is)
    (case l__law_readings => k_is)
    (case c__law_readings => k_is)
    (case k__law_readings => k_is)
    (case a__law_good_moment => k_is)
    (case l__law_good_moment => k_is)
    (case c__law_good_moment => k_is)
    (case k__law_good_moment => k_is)
    (case a__law_good_span => k_is)
    (case l__law_good_span => k_is)
    (case c__law_good_span => k_is)
    (case k__law_good_span => k_is)
    (case a__law_good_cap => k_is)
    (case l__law_good_cap => k_is)
    (case c__law_good_cap => k_is)
    (case k__law_good_cap => k_is)
    (case a__law_good => k_is)
    (case l__law_good => k_is)
    (case c__law_good => k_is)
    (case k__law_good => k_is)
    (case a__law_odd => k_is)
    (case l__law_odd => k_is)
    (case c__law_odd => k_is)
    (case k__law_odd => k_is)
    (case a__law_bent => k_is)
    (case l__law_bent => k_is)
    (case c__law_bent => k_is)
    (case k__law_bent => k_is)
    (case a__law_told => k_is)
    (case l__law_told => k_is)
    (case c__law_told => k_is)
    (case k__law_told => k_is)
    (case a__law_judged => k_is)
    (case l__law_judged => k_is)
    (case c__law_judged => k_is)
    (case k__law_judged => k_is)
    (case a_law => k_is)
    (case l_law => k_is)
    (case c_law => k_is)
    (case k_law => k_is)
    (case htabs => rfl)
#print axioms PySem.Challenge.cw_bellrest_k02_judges_of_values_holds
end
