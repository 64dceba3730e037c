import PyProof.Rows.All
import Wide.All
import OpenK.AllK
import Wide.FinOn
import PySem.Challenge.RW_spindlefit_k06_overfull_intervals_shown
import HandS.List
import HandS.Comp
import HandS.Iter
import HandS.Words
import HandS.TupAny
import HandS.Zip
import HandS.Style
import HandS.IsInst
import HandS.Deep
import HandS.NoneIn
import HandS.Conv
import HandS.SortInts
import KE.DataMinMax
import KE.DataFind
import PyProof.ReprRoads
import PyProof.SeqIndex
import HandS.Ends
import HandS.More
import HandS.Strs
import HandS.SetFor
import HandS.TupMul
set_option Elab.async false
set_option linter.all false
set_option maxRecDepth 100000
set_option maxHeartbeats 4000000
/-! Rg0: what the rules ask of a text's form. -/
namespace Rf
open PySem L2

def isStar : Expr → Bool
  | .Starred _ _ => true
  | _ => false
def isSlice : Expr → Bool
  | .Slice _ _ _ _ => true
  | _ => false
def isSetD : Expr → Bool
  | .Set _ _ _ => true
  | _ => false
def isCompr : Expr → Bool
  | .ListComp _ _ _ _ => true
  | .SetComp _ _ _ _ => true
  | .DictComp _ _ _ _ _ => true
  | _ => false
def isCall0 : Expr → Bool
  | .Call (.Name _ _) [] [] _ => true
  | _ => false
def noStars (es : List Expr) : Bool := es.all fun e => !isStar e
section
variable {e o : Expr} {es : List Expr} {env : Env}
theorem star_cons (h : isStar e = false) : starEach (e :: es) env = (false, eval e env) :: starEach es env := by
  cases e <;> first | rfl | cases h
theorem back_plain {pos : Pos} : ∀ {es : List Expr}, noStars es = true → (backTo pos (starEach es env)).any (·.1) = false
  | [], _ => rfl
  | e :: es, h => by
    simp only [noStars, List.all_cons, Bool.and_eq_true, Bool.not_eq_true'] at h
    rw [star_cons h.1]
    have := back_plain (pos := pos) (es := es) h.2
    simp only [backTo, List.map_cons, List.any_cons, Bool.false_or] at this ⊢
    first | exact this | simpa using this
theorem back_all {pos : Pos} : ∀ {es : List Expr}, noStars es = true → (backTo pos (starEach es env)).all (fun x => !x.1) = true
  | [], _ => rfl
  | e :: es, h => by
    simp only [noStars, List.all_cons, Bool.and_eq_true, Bool.not_eq_true'] at h
    rw [star_cons h.1]
    have := back_all (pos := pos) (es := es) h.2
    simp only [backTo, List.map_cons, List.all_cons, Bool.not_false, Bool.true_and] at this ⊢
    first | exact this | simpa using this
theorem plainIx_of (h : isSlice e = false) : PlainIx e := by
  intro a b
  cases e <;> first | rfl | cases h
theorem noMark_of {op : CmpOp} (h : isSetD e = false) : behindInMarks op e = false := by
  cases e <;> first | rfl | cases h
theorem lastMark_of {op op' : CmpOp} {b : Expr} (h : isSetD e = false) : lastMarks [op, op'] [b, e] = false := noMark_of h
theorem swap_of {t : Option Expr} {n : Nat} (h : isCompr e = false) : swapsWith e t n env = pure false := by
  cases e <;> first | rfl | cases h
theorem swapSole_of {t : Expr} {n : Nat} (h : isCompr e = false) : swapsWithSole [t] e n env = pure false := swap_of h
theorem folded_of (h : isSetD e = false) (x : Value) : foldedSetIterable e env x = pure x := by
  cases e <;> first | rfl | cases h
theorem base_of {name : Str} {w : Sem Value} (h : isCall0 o = false) : attributeBase o name env w = w := by
  unfold attributeBase
  split
  · cases h
  · rfl
end
theorem relabel_eq (scope : Scope) (env : Env) : relabel scope env = { scope with names := scope.names.map fun (n, k) => if k == .free && env.scope.kind == .function && env.scope.names.lookup n == some .cell then (n, .cell) else (n, k) } := rfl
end Rf

/-! Rf: pure meanings of defs over data, and that the machine keeps to them. -/
namespace Rf
open PySem L2

/-! ### meanings -/
/-- what an object that may still change holds -/
inductive Cell where
  | lst (ds : List PyData)
  | dct (es : List (PyData × PyData))
  | exc (nm : Str) (fs : List (Str × PyData))
/-- as data, where it can be frozen -/
def Cell.dat : Cell → Option PyData
  | .lst ds => some (.list ds)
  | _ => none
/-- what an expression gives: data; a new object that nobody else holds; a look at the object of slot i -/
inductive SV where
  | dat (d : PyData) | fre (c : Cell) | bor (i : Nat)
/-- what a slot holds: data; an object of its own -/
inductive S0 where
  | dat (d : PyData) | own (c : Cell)
abbrev Fm := List (Option S0)
abbrev ME := Fm → Option (SV × Fm)
abbrev MT := Fm → Option (Bool × Fm)
abbrev MA := Fm → Option (List SV × Fm)
inductive Fl where
  | nx | rt (v : SV) | bk | ct
abbrev MS := Fm → Option (Fl × Fm)

def peek : SV → Fm → Option PyData
  | .dat d, _ => some d
  | .fre c, _ => c.dat
  | .bor i, fm => match fm[i]? with
    | some (some (.dat d)) => some d
    | some (some (.own c)) => c.dat
    | _ => none
/-- from now on data -/
def frz : SV → Fm → Option (PyData × Fm)
  | .dat d, fm => some (d, fm)
  | .fre c, fm => match c.dat with
    | some d => some (d, fm)
    | none => none
  | .bor i, fm => match fm[i]? with
    | some (some (.dat d)) => some (d, fm)
    | some (some (.own c)) => match c.dat with
      | some d => some (d, fm.set i (some (.dat d)))
      | none => none
    | _ => none
def frzAll : List SV → Fm → Option (List PyData × Fm)
  | [], fm => some ([], fm)
  | v :: vs, fm => match frz v fm with
    | some (d, fm1) => match frzAll vs fm1 with
      | some (ds, fm2) => some (d :: ds, fm2)
      | none => none
    | none => none

/-! ### heaps and data -/
/-- a tuple that is known to be plain -/
def SqP (K : PySem.W.Frag) (F : Hp) (a : Addr) (xs : List V) : Prop := SqT K F a xs ∧ ((∃ o, F a = some (.frz o (.tup xs)) ∧ o.dict = none) ∨ ∃ o, K.lookup a = some o ∧ o.cls = .type "tuple" ∧ o.dict = none)
mutual
inductive Dq (K : PySem.W.Frag) (F : Hp) : V → PyData → Prop
  | non : Dq K F .non .none
  | bl (b : Bool) : Dq K F (.bl b) (.bool b)
  | int (i : Int) : Dq K F (.int i) (.int i)
  | str (x : Str) : Dq K F (.str x) (.str x)
  | lst {a : Addr} {xs : List V} {ds : List PyData} (h : SqL K F a xs) (r : DqAll K F xs ds) : Dq K F (.ref a) (.list ds)
  | tup {a : Addr} {xs : List V} {ds : List PyData} (h : SqP K F a xs) (r : DqAll K F xs ds) : Dq K F (.ref a) (.tuple ds)
inductive DqAll (K : PySem.W.Frag) (F : Hp) : List V → List PyData → Prop
  | nil : DqAll K F [] []
  | cons {v : V} {vs : List V} {d : PyData} {ds : List PyData} (h : Dq K F v d) (r : DqAll K F vs ds) : DqAll K F (v :: vs) (d :: ds)
end
mutual
theorem Dq.dp {K : PySem.W.Frag} {F : Hp} : ∀ {v : V} {d : PyData}, Dq K F v d → Dp K F v d
  | _, _, .non => .non
  | _, _, .bl b => .bl b
  | _, _, .int i => .int i
  | _, _, .str x => .str x
  | _, _, .lst h r => .lst h r.dp
  | _, _, .tup h r => .tup h.1 r.dp
theorem DqAll.dp {K : PySem.W.Frag} {F : Hp} : ∀ {vs : List V} {ds : List PyData}, DqAll K F vs ds → DpAll K F vs ds
  | _, _, .nil => .nil
  | _, _, .cons h r => .cons h.dp r.dp
end
section
variable {K : PySem.W.Frag} {F F' G H H' : Hp}
theorem Same.upd' {p : Addr} {o : HO} (h : F p = none) : Same F (upd F p o) := fun b u e => by
  rw [upd_ne (ne_of_none e h)]; exact e
theorem sqT_mono {a : Addr} {xs : List V} (e : Same F F') (h : SqT K F a xs) : SqT K F' a xs := by
  rcases h with (h | ⟨o, h⟩) | h
  · exact .inl (.inl (e _ _ h))
  · exact .inl (.inr ⟨o, e _ _ h⟩)
  · exact .inr h
theorem sqP_mono {a : Addr} {xs : List V} (e : Same F F') (h : SqP K F a xs) : SqP K F' a xs := ⟨sqT_mono e h.1, h.2.elim (fun ⟨o, h1, h2⟩ => .inl ⟨o, e _ _ h1, h2⟩) .inr⟩
mutual
theorem dp_mono (e : Same F F') : ∀ {v : V} {d : PyData}, Dq K F v d → Dq K F' v d
  | _, _, .non => .non
  | _, _, .bl b => .bl b
  | _, _, .int i => .int i
  | _, _, .str x => .str x
  | _, _, .lst h r => .lst (e.seq h) (dpAll_mono e r)
  | _, _, .tup h r => .tup (sqP_mono e h) (dpAll_mono e r)
theorem dpAll_mono (e : Same F F') : ∀ {vs : List V} {ds : List PyData}, DqAll K F vs ds → DqAll K F' vs ds
  | _, _, .nil => .nil
  | _, _, .cons h r => .cons (dp_mono e h) (dpAll_mono e r)
end
theorem dpAll_len : ∀ {vs : List V} {ds : List PyData}, DqAll K F vs ds → vs.length = ds.length
  | _, _, .nil => rfl
  | _, _, .cons _ r => by simp [dpAll_len r]
theorem dpAll_get : ∀ {vs : List V} {ds : List PyData} {i : Nat} {d : PyData}, DqAll K F vs ds → ds[i]? = some d → ∃ v, vs[i]? = some v ∧ Dq K F v d
  | _, _, _, _, .nil, e => by simp at e
  | _, _, 0, _, .cons h _, e => by simp at e; subst e; exact ⟨_, rfl, h⟩
  | _, _, i + 1, d, .cons _ r, e => by
    obtain ⟨v, h1, h2⟩ := dpAll_get (i := i) (d := d) r (by simpa using e)
    exact ⟨v, by simpa using h1, h2⟩
theorem dpAll_app : ∀ {vs us : List V} {ds es : List PyData}, DqAll K F vs ds → DqAll K F us es → DqAll K F (vs ++ us) (ds ++ es)
  | _, _, _, _, .nil, s => s
  | _, _, _, _, .cons h r, s => .cons h (dpAll_app r s)
theorem dpAll_take : ∀ {vs : List V} {ds : List PyData} (n : Nat), DqAll K F vs ds → DqAll K F (vs.take n) (ds.take n)
  | _, _, 0, _ => .nil
  | _, _, _ + 1, .nil => .nil
  | _, _, n + 1, .cons h r => .cons h (dpAll_take n r)
theorem dpAll_drop : ∀ {vs : List V} {ds : List PyData} (n : Nat), DqAll K F vs ds → DqAll K F (vs.drop n) (ds.drop n)
  | _, _, 0, r => r
  | _, _, _ + 1, .nil => .nil
  | _, _, n + 1, .cons _ r => dpAll_drop n r
theorem dpAll_set {v : V} {d : PyData} (h : Dq K F v d) : ∀ {vs : List V} {ds : List PyData} (n : Nat), DqAll K F vs ds → DqAll K F (vs.set n v) (ds.set n d)
  | _, _, _, .nil => .nil
  | _, _, 0, .cons _ r => .cons h r
  | _, _, n + 1, .cons q r => .cons q (dpAll_set h n r)
theorem dpAll_erase : ∀ {vs : List V} {ds : List PyData} (n : Nat), DqAll K F vs ds → DqAll K F (vs.eraseIdx n) (ds.eraseIdx n)
  | _, _, _, .nil => .nil
  | _, _, 0, .cons _ r => r
  | _, _, n + 1, .cons q r => .cons q (dpAll_erase n r)
theorem dpAll_rev : ∀ {vs : List V} {ds : List PyData}, DqAll K F vs ds → DqAll K F vs.reverse ds.reverse
  | _, _, .nil => .nil
  | _, _, .cons h r => by
    rw [List.reverse_cons, List.reverse_cons]
    exact dpAll_app (dpAll_rev r) (.cons h .nil)

/-! ### states -/
def CRel (K : PySem.W.Frag) (F H : Hp) (p : Addr) : Cell → Prop
  | .lst ds => ∃ vs, H p = some (.lst vs) ∧ DqAll K F vs ds
  | .dct _ => False
  | .exc _ _ => False
theorem CRel.some' {p : Addr} {c : Cell} (h : CRel K F H p c) : ∃ o, H p = some o := by
  cases c with
  | lst ds => obtain ⟨vs, e, _⟩ := h; exact ⟨_, e⟩
  | dct es => exact h.elim
  | exc nm fs => exact h.elim
theorem CRel.mono {p : Addr} {c : Cell} (e : Same F F') (k : ∀ o, H p = some o → H' p = some o) (h : CRel K F H p c) : CRel K F' H' p c := by
  cases c with
  | lst ds => obtain ⟨vs, q, r⟩ := h; exact ⟨vs, k _ q, dpAll_mono e r⟩
  | dct es => exact h.elim
  | exc nm fs => exact h.elim
/-- frozen as it stands -/
theorem CRel.dp {p : Addr} {c : Cell} {d : PyData} (s : Same F H) (hd : c.dat = some d) (h : CRel K F H p c) : Dq K H (.ref p) d := by
  cases c with
  | lst ds => cases hd; obtain ⟨vs, q, r⟩ := h; exact .lst (SqL.of q) (dpAll_mono s r)
  | dct es => cases hd
  | exc nm fs => cases hd
theorem CRel.frz {p : Addr} {c : Cell} {o : HO} {d : PyData} (hf : F p = none) (ho : H p = some o) (hd : c.dat = some d) (h : CRel K F H p c) : Dq K (upd F p o) (.ref p) d := by
  cases c with
  | lst ds =>
    cases hd
    obtain ⟨vs, q, r⟩ := h
    rw [ho] at q; cases q
    exact .lst (SqL.of upd_same) (dpAll_mono (Same.upd' hf) r)
  | dct es => cases hd
  | exc nm fs => cases hd

def Live (σ : L2.St) (fm : Fm) (p : Addr) : Prop := ∃ (i : Nat) (c : Cell), fm[i]? = some (some (.own c)) ∧ σ[i]? = some (some (.ref p))
structure Rel (K : PySem.W.Frag) (F H : Hp) (σ : L2.St) (fm : Fm) : Prop where
  sub : Same F H
  len : fm.length = σ.length
  dat : ∀ (i : Nat) (d : PyData), fm[i]? = some (some (.dat d)) → ∃ v, σ[i]? = some (some v) ∧ Dq K F v d
  own : ∀ (i : Nat) (c : Cell), fm[i]? = some (some (.own c)) → ∃ p, σ[i]? = some (some (.ref p)) ∧ F p = none ∧ CRel K F H p c
  apart : ∀ (i j : Nat) (c c' : Cell) (p : Addr), i ≠ j → fm[i]? = some (some (.own c)) → fm[j]? = some (some (.own c')) → σ[i]? = some (some (.ref p)) → σ[j]? ≠ some (some (.ref p))
/-- from one state to a later one: L: what may change -/
structure Ext (L : Addr → Prop) (F H : Hp) (L' : Addr → Prop) (F' H' : Hp) : Prop where
  same : Same F F'
  keep : ∀ a o, ¬ L a → H a = some o → H' a = some o
  new : ∀ a o, F' a = some o → F a = some o ∨ H a = none ∨ L a
  live : ∀ a, L' a → L a ∨ H a = none
  grow : ∀ a, H' a = none → H a = none
theorem Ext.refl {L : Addr → Prop} : Ext L F H L F H := ⟨Same.refl _, fun _ _ _ h => h, fun _ _ h => .inl h, fun _ h => .inl h, fun _ h => h⟩
theorem Ext.trans {L L1 L2 : Addr → Prop} {F1 H1 F2 H2 : Hp} (a : Ext L F H L1 F1 H1) (b : Ext L1 F1 H1 L2 F2 H2) : Ext L F H L2 F2 H2 where
  same := a.same.trans b.same
  keep := fun p o hl h => b.keep p o (fun q => by
    rcases a.live p q with q | q
    · exact hl q
    · rw [h] at q; cases q) (a.keep p o hl h)
  new := fun p o h => by
    rcases b.new p o h with q | q | q
    · exact a.new p o q
    · exact .inr (.inl (a.grow p q))
    · rcases a.live p q with q | q
      · exact .inr (.inr q)
      · exact .inr (.inl q)
  live := fun p h => by
    rcases b.live p h with q | q
    · exact a.live p q
    · exact .inr (a.grow p q)
  grow := fun p h => a.grow p (b.grow p h)

def VRel (K : PySem.W.Frag) (F H : Hp) (σ : L2.St) (fm : Fm) : SV → V → Prop
  | .dat d, x => Dq K F x d
  | .fre c, x => ∃ p, x = .ref p ∧ F p = none ∧ CRel K F H p c ∧ ¬ Live σ fm p
  | .bor i, x => σ[i]? = some (some x) ∧ ∃ s : S0, fm[i]? = some (some s)
/-- a new object was not there at H0 -/
def VNew (H0 : Hp) : SV → V → Prop
  | .fre _, x => ∀ p, x = .ref p → H0 p = none
  | _, _ => True
theorem VNew.back {L L' : Addr → Prop} (e : Ext L F H L' F' H') {v : SV} {x : V} (h : VNew H' v x) : VNew H v x := by
  cases v with
  | fre c => exact fun p q => e.grow p (h p q)
  | dat _ => trivial
  | bor _ => trivial
variable {σ : L2.St} {fm fm' : Fm} {v : SV} {x : V}
/-- slots stay -/
def Keeps (fm fm' : Fm) : Prop := ∀ (i : Nat) (s : S0), fm[i]? = some (some s) → ∃ s' : S0, fm'[i]? = some (some s')
theorem Keeps.refl (fm : Fm) : Keeps fm fm := fun _ s h => ⟨s, h⟩
theorem Keeps.trans {a b c : Fm} (h : Keeps a b) (k : Keeps b c) : Keeps a c := fun i s e => by
  obtain ⟨s1, e1⟩ := h i s e
  exact k i s1 e1
theorem VRel.mono (e : Ext (Live σ fm) F H (Live σ fm') F' H') (k : Keeps fm fm') (h : VRel K F H σ fm v x) : VRel K F' H' σ fm' v x := by
  cases v with
  | dat d => exact dp_mono e.same h
  | fre c =>
    obtain ⟨p, ex, hf, hc, hl⟩ := h
    obtain ⟨o, ho⟩ := hc.some'
    refine ⟨p, ex, ?_, hc.mono e.same (fun o h => e.keep p o hl h), fun q => ?_⟩
    · cases q : F' p with
      | none => rfl
      | some u =>
        rcases e.new p u q with z | z | z
        · rw [hf] at z; cases z
        · rw [ho] at z; cases z
        · exact absurd z hl
    · rcases e.live p q with z | z
      · exact hl z
      · rw [ho] at z; cases z
  | bor i =>
    obtain ⟨h1, s, h2⟩ := h
    exact ⟨h1, k i s h2⟩
theorem peek_dp (R : Rel K F H σ fm) (h : VRel K F H σ fm v x) {d : PyData} (hp : peek v fm = some d) : Dq K H x d := by
  cases v with
  | dat d' => cases hp; exact dp_mono R.sub h
  | fre c =>
    obtain ⟨p, rfl, hf, hc, _⟩ := h
    exact hc.dp R.sub hp
  | bor i =>
    obtain ⟨h1, s, h2⟩ := h
    simp only [peek, h2] at hp
    cases s with
    | dat d' =>
      cases hp
      obtain ⟨y, hy, q⟩ := R.dat i _ h2
      rw [h1] at hy; cases hy
      exact dp_mono R.sub q
    | own c =>
      obtain ⟨p, hy, hf, q⟩ := R.own i _ h2
      rw [h1] at hy; cases hy
      exact q.dp R.sub hp
theorem peek_list (R : Rel K F H σ fm) (h : VRel K F H σ fm v x) {ds : List PyData} (hp : peek v fm = some (.list ds)) : ∃ a vs, x = .ref a ∧ SqL K H a vs ∧ DqAll K F vs ds := by
  have fromDp : ∀ {y : V}, Dq K F y (.list ds) → ∃ a vs, y = .ref a ∧ SqL K H a vs ∧ DqAll K F vs ds := fun q => by
    cases q with
    | lst s r => exact ⟨_, _, rfl, R.sub.seq s, r⟩
  have fromC : ∀ {p : Addr} {c : Cell}, c.dat = some (.list ds) → CRel K F H p c → ∃ a vs, V.ref p = .ref a ∧ SqL K H a vs ∧ DqAll K F vs ds := fun {p c} e q => by
    cases c with
    | lst es =>
      cases e
      obtain ⟨vs, q, r⟩ := q
      exact ⟨p, vs, rfl, SqL.of q, r⟩
    | dct es => cases e
    | exc nm fs => cases e
  cases v with
  | dat d' => cases hp; exact fromDp h
  | fre c =>
    obtain ⟨p, rfl, hf, hc, _⟩ := h
    exact fromC hp hc
  | bor i =>
    obtain ⟨h1, s, h2⟩ := h
    simp only [peek, h2] at hp
    cases s with
    | dat d' =>
      cases hp
      obtain ⟨y, hy, q⟩ := R.dat i _ h2
      rw [h1] at hy; cases hy
      exact fromDp q
    | own c =>
      obtain ⟨p, hy, hf, q⟩ := R.own i _ h2
      rw [h1] at hy; cases hy
      exact fromC hp q
theorem Cell.dat_list {c : Cell} {d : PyData} (h : c.dat = some d) : ∃ ds, d = .list ds := by
  cases c with
  | lst ds => cases h; exact ⟨_, rfl⟩
  | dct es => cases h
  | exc nm fs => cases h
/-- what is no list is data -/
theorem peek_flat (R : Rel K F H σ fm) (h : VRel K F H σ fm v x) {d : PyData} (hp : peek v fm = some d) (hd : ∀ ds, d ≠ .list ds) : Dq K F x d := by
  cases v with
  | dat d' => cases hp; exact h
  | fre c =>
    obtain ⟨ds, e⟩ := c.dat_list hp
    exact absurd e (hd ds)
  | bor i =>
    obtain ⟨h1, s, h2⟩ := h
    simp only [peek, h2] at hp
    cases s with
    | dat d' =>
      cases hp
      obtain ⟨y, hy, q⟩ := R.dat i _ h2
      rw [h1] at hy; cases hy
      exact q
    | own c =>
      obtain ⟨ds, e⟩ := c.dat_list hp
      exact absurd e (hd ds)
theorem peek_tup (R : Rel K F H σ fm) (h : VRel K F H σ fm v x) {ds : List PyData} (hp : peek v fm = some (.tuple ds)) : ∃ a vs, x = .ref a ∧ SqP K H a vs ∧ DqAll K F vs ds := by
  cases peek_flat R h hp (fun _ e => nomatch e) with
  | tup s r => exact ⟨_, _, rfl, sqP_mono R.sub s, r⟩
theorem peek_int (R : Rel K F H σ fm) (h : VRel K F H σ fm v x) {i : Int} (hp : peek v fm = some (.int i)) : x = .int i := by
  cases peek_flat R h hp (fun _ e => nomatch e); rfl
theorem peek_bool (R : Rel K F H σ fm) (h : VRel K F H σ fm v x) {i : Bool} (hp : peek v fm = some (.bool i)) : x = .bl i := by
  cases peek_flat R h hp (fun _ e => nomatch e); rfl
theorem peek_none (R : Rel K F H σ fm) (h : VRel K F H σ fm v x) (hp : peek v fm = some .none) : x = .non := by
  cases peek_flat R h hp (fun _ e => nomatch e); rfl
theorem peek_str (R : Rel K F H σ fm) (h : VRel K F H σ fm v x) {i : Str} (hp : peek v fm = some (.str i)) : x = .str i := by
  cases peek_flat R h hp (fun _ e => nomatch e); rfl

/-! ### freezing -/
theorem keeps_set {i : Nat} {s : S0} : Keeps fm (fm.set i (some s)) := fun j t h => by
  by_cases e : i = j
  · subst e
    have hl : i < fm.length := by
      obtain ⟨hl, _⟩ := List.getElem?_eq_some_iff.mp h
      exact hl
    exact ⟨s, List.getElem?_set_self hl⟩
  · exact ⟨t, by rw [List.getElem?_set_ne e]; exact h⟩
theorem live_frz {i : Nat} {d : PyData} {p : Addr} (h : Live σ (fm.set i (some (.dat d))) p) : Live σ fm p := by
  obtain ⟨j, c, h1, h2⟩ := h
  by_cases e : i = j
  · subst e
    have hl : i < fm.length := by
      obtain ⟨hl, _⟩ := List.getElem?_eq_some_iff.mp h1
      simpa using hl
    rw [List.getElem?_set_self hl] at h1
    cases h1
  · rw [List.getElem?_set_ne e] at h1
    exact ⟨j, c, h1, h2⟩
/-- an object that nobody's slot holds is frozen -/
theorem Rel.frz1 {p : Addr} {o : HO} (R : Rel K F H σ fm) (hf : F p = none) (ho : H p = some o) (hl : ¬ Live σ fm p) : Rel K (upd F p o) H σ fm := by
  have e : Same F (upd F p o) := Same.upd' hf
  refine ⟨fun b u q => ?_, R.len, fun i d h => ?_, fun i c h => ?_, R.apart⟩
  · by_cases z : b = p
    · subst z; rw [upd_same] at q; cases q; exact ho
    · rw [upd_ne z] at q; exact R.sub _ _ q
  · obtain ⟨y, h1, h2⟩ := R.dat i d h
    exact ⟨y, h1, dp_mono e h2⟩
  · obtain ⟨q, h1, h2, h3⟩ := R.own i c h
    have ne : q ≠ p := fun z => hl (by subst z; exact ⟨i, c, h, h1⟩)
    exact ⟨q, h1, by rw [upd_ne ne]; exact h2, h3.mono e fun _ h => h⟩
/-- the object of slot i is frozen -/
theorem Rel.frz2 {i : Nat} {c : Cell} {p : Addr} {o : HO} {dd : PyData} (R : Rel K F H σ fm) (hi : fm[i]? = some (some (.own c))) (hx : σ[i]? = some (some (.ref p))) (ho : H p = some o) (hdd : c.dat = some dd) :
    Rel K (upd F p o) H σ (fm.set i (some (.dat dd))) := by
  obtain ⟨p', hx', hf, hc⟩ := R.own i c hi
  rw [hx] at hx'; cases hx'
  have e : Same F (upd F p o) := Same.upd' hf
  have hil : i < fm.length := by
    obtain ⟨hl, _⟩ := List.getElem?_eq_some_iff.mp hi
    exact hl
  refine ⟨fun b u q => ?_, by rw [List.length_set]; exact R.len, fun j d h => ?_, fun j c' h => ?_, fun j k c' c'' q hne h1 h2 h3 => ?_⟩
  · by_cases z : b = p
    · subst z; rw [upd_same] at q; cases q; exact ho
    · rw [upd_ne z] at q; exact R.sub _ _ q
  · by_cases z : i = j
    · subst z
      rw [List.getElem?_set_self hil] at h
      cases h
      exact ⟨_, hx, hc.frz hf ho hdd⟩
    · rw [List.getElem?_set_ne z] at h
      obtain ⟨y, h1, h2⟩ := R.dat j d h
      exact ⟨y, h1, dp_mono e h2⟩
  · by_cases z : i = j
    · subst z
      rw [List.getElem?_set_self hil] at h
      cases h
    · rw [List.getElem?_set_ne z] at h
      obtain ⟨q, h1, h2, h3⟩ := R.own j c' h
      have ne : q ≠ p := fun w => by subst w; exact R.apart i j c c' q z hi h hx h1
      exact ⟨q, h1, by rw [upd_ne ne]; exact h2, h3.mono e fun _ h => h⟩
  · have f : ∀ {j : Nat} {c' : Cell}, (fm.set i (some (.dat dd)))[j]? = some (some (.own c')) → fm[j]? = some (some (.own c')) := fun {j c'} h => by
      by_cases z : i = j
      · subst z; rw [List.getElem?_set_self hil] at h; cases h
      · rw [List.getElem?_set_ne z] at h; exact h
    exact R.apart j k c' c'' q hne (f h1) (f h2) h3
/-- a value becomes data; L, F0, H0: the state ahead of the value's making -/
theorem frz_ok {L : Addr → Prop} {F0 H0 : Hp} {d : PyData} (E : Ext L F0 H0 (Live σ fm) F H) (R : Rel K F H σ fm) (h : VRel K F H σ fm v x) (hn : VNew H0 v x) (hp : frz v fm = some (d, fm')) :
    ∃ F', Ext L F0 H0 (Live σ fm') F' H ∧ Ext (Live σ fm) F H (Live σ fm') F H ∧ Same F F' ∧ Rel K F' H σ fm' ∧ Dq K F' x d ∧ Keeps fm fm' ∧ (∀ a o, F' a = some o → F a = some o ∨ Live σ fm a ∨ (x = .ref a ∧ ∃ c, v = .fre c)) := by
  cases v with
  | dat d' =>
    cases hp
    exact ⟨F, E, Ext.refl, Same.refl _, R, h, Keeps.refl _, fun _ _ h => .inl h⟩
  | fre c =>
    obtain ⟨p, rfl, hf, hc, hl⟩ := h
    obtain ⟨o, ho⟩ := hc.some'
    have e : Same F (upd F p o) := Same.upd' hf
    simp only [frz] at hp
    split at hp
    case h_2 => cases hp
    rename_i dd hdd
    cases hp
    refine ⟨upd F p o, ⟨E.same.trans e, E.keep, fun a u q => ?_, E.live, E.grow⟩, Ext.refl, e, R.frz1 hf ho hl, hc.frz hf ho hdd, Keeps.refl _, fun a u q => ?_⟩
    · by_cases z : a = p
      · subst z; exact .inr (.inl (hn _ rfl))
      · rw [upd_ne z] at q; exact E.new a u q
    · by_cases z : a = p
      · subst z; exact .inr (.inr ⟨rfl, _, rfl⟩)
      · rw [upd_ne z] at q; exact .inl q
  | bor i =>
    obtain ⟨h1, s, h2⟩ := h
    simp only [frz, h2] at hp
    cases s with
    | dat d' =>
      cases hp
      obtain ⟨y, hy, q⟩ := R.dat i _ h2
      rw [h1] at hy; cases hy
      exact ⟨F, E, Ext.refl, Same.refl _, R, q, Keeps.refl _, fun _ _ h => .inl h⟩
    | own c =>
      obtain ⟨p, hy, hf, hc⟩ := R.own i _ h2
      rw [h1] at hy; cases hy
      obtain ⟨o, ho⟩ := hc.some'
      simp only at hp
      split at hp
      case h_2 => cases hp
      rename_i dd hdd
      cases hp
      have e : Same F (upd F p o) := Same.upd' hf
      refine ⟨upd F p o, ⟨E.same.trans e, E.keep, fun a u q => ?_, fun a q => E.live a (live_frz q), E.grow⟩, ⟨Same.refl _, fun _ _ _ h => h, fun _ _ h => .inl h, fun a q => .inl (live_frz q), fun _ h => h⟩, e, R.frz2 h2 h1 ho hdd, hc.frz hf ho hdd, keeps_set, fun a u q => ?_⟩
      · by_cases z : a = p
        · subst z
          rcases E.live a ⟨i, c, h2, h1⟩ with w | w
          · exact .inr (.inr w)
          · exact .inr (.inl w)
        · rw [upd_ne z] at q; exact E.new a u q
      · by_cases z : a = p
        · subst z; exact .inr (.inl ⟨i, c, h2, h1⟩)
        · rw [upd_ne z] at q; exact .inl q
end
end Rf

namespace Rf
open PySem L2

/-! ### readings of meanings -/
structure Aft (K : PySem.W.Frag) (σ : L2.St) (F H : Hp) (fm : Fm) (F' H' : Hp) (fm' : Fm) : Prop where
  ext : Ext (Live σ fm) F H (Live σ fm') F' H'
  kp : Keeps fm fm'
  rel : Rel K F' H' σ fm'
section
variable {K : PySem.W.Frag} {F F' F1 H H' H1 : Hp} {σ σ' : L2.St} {fm fm' fm1 : Fm} {v : SV} {x : V}
theorem Aft.refl (R : Rel K F H σ fm) : Aft K σ F H fm F H fm := ⟨Ext.refl, Keeps.refl _, R⟩
theorem Aft.trans (a : Aft K σ F H fm F1 H1 fm1) (b : Aft K σ F1 H1 fm1 F' H' fm') : Aft K σ F H fm F' H' fm' := ⟨a.ext.trans b.ext, a.kp.trans b.kp, b.rel⟩
theorem Aft.val (a : Aft K σ F H fm F' H' fm') (h : VRel K F H σ fm v x) : VRel K F' H' σ fm' v x := h.mono a.ext a.kp
theorem Aft.new (a : Aft K σ F H fm F' H' fm') (h : VNew H' v x) : VNew H v x := h.back a.ext
/-- a new object; not frozen | frozen -/
theorem Aft.lay {p : Addr} {o : HO} (R : Rel K F H σ fm) (hp : H p = none) : Aft K σ F H fm F (upd H p o) fm := by
  have s : Same H (upd H p o) := Same.upd' hp
  refine ⟨⟨Same.refl _, fun a u _ h => s a u h, fun a u h => .inl h, fun a h => .inl h, fun a h => ?_⟩, Keeps.refl _, ⟨R.sub.trans s, R.len, R.dat, fun i c h => ?_, R.apart⟩⟩
  · exact s.free h
  · obtain ⟨q, h1, h2, h3⟩ := R.own i c h
    exact ⟨q, h1, h2, h3.mono (Same.refl _) fun u h => s q u h⟩
theorem Rel.fnone {p : Addr} (R : Rel K F H σ fm) (hp : H p = none) : F p = none := R.sub.free hp
theorem Rel.nolive {p : Addr} (R : Rel K F H σ fm) (hp : H p = none) : ¬ Live σ fm p := fun ⟨i, c, h1, h2⟩ => by
  obtain ⟨q, h3, _, h4⟩ := R.own i c h1
  rw [h2] at h3; cases h3
  obtain ⟨o, h⟩ := h4.some'
  rw [hp] at h; cases h
theorem Aft.layF {p : Addr} {o : HO} (R : Rel K F H σ fm) (hp : H p = none) : Aft K σ F H fm (upd F p o) (upd H p o) fm := by
  have a := Aft.lay (o := o) R hp
  have hf := R.fnone hp
  have R2 := a.rel.frz1 (p := p) (o := o) hf upd_same (R.nolive hp)
  refine ⟨⟨Same.upd' hf, a.ext.keep, fun b u h => ?_, a.ext.live, a.ext.grow⟩, a.kp, R2⟩
  by_cases z : b = p
  · subst z; exact .inr (.inl hp)
  · rw [upd_ne z] at h; exact .inl h
theorem Aft.newL {p : Addr} {vs : List V} {ds : List PyData} (R : Rel K F H σ fm) (hp : H p = none) (r : DqAll K F vs ds) : VRel K F (upd H p (.lst vs)) σ fm (.fre (.lst ds)) (.ref p) :=
  ⟨p, rfl, R.fnone hp, ⟨vs, upd_same, r⟩, R.nolive hp⟩
theorem Aft.newT {p : Addr} {o : Obj} {vs : List V} {ds : List PyData} (R : Rel K F H σ fm) (hp : H p = none) (hd : o.dict = none) (r : DqAll K F vs ds) : VRel K (upd F p (.frz o (.tup vs))) (upd H p (.frz o (.tup vs))) σ fm (.dat (.tuple ds)) (.ref p) :=
  .tup ⟨.inl (.inr ⟨o, upd_same⟩), .inl ⟨o, upd_same, hd⟩⟩ (dpAll_mono (Same.upd' (R.fnone hp)) r)
theorem VNew.dat {d : PyData} : VNew H (.dat d) x := trivial
theorem VNew.ref {c : Cell} {p : Addr} (h : H p = none) : VNew H (.fre c) (.ref p) := fun q e => by cases e; exact h

def tE (K : PySem.W.Frag) (m : ME) : TE := fun σ H Q => ∃ F fm v fm', Rel K F H σ fm ∧ m fm = some (v, fm') ∧
  ∀ x F' H', Aft K σ F H fm F' H' fm' → VRel K F' H' σ fm' v x → VNew H v x → Q x H'
def tT (K : PySem.W.Frag) (m : MT) : TT := fun σ H Q => ∃ F fm b fm', Rel K F H σ fm ∧ m fm = some (b, fm') ∧
  ∀ F' H', Aft K σ F H fm F' H' fm' → Q b H'
/-- several values: each as it is told, new ones apart -/
inductive VsRel (K : PySem.W.Frag) (F H : Hp) (σ : L2.St) (fm : Fm) : List SV → List V → Prop
  | nil : VsRel K F H σ fm [] []
  | cons {v : SV} {x : V} {vs : List SV} {xs : List V} : VRel K F H σ fm v x → VsRel K F H σ fm vs xs → (∀ (c : Cell), v = .fre c → ∀ (j : Nat) (c' : Cell), vs[j]? = some (.fre c') → xs[j]? ≠ some x) → VsRel K F H σ fm (v :: vs) (x :: xs)
inductive VsNew (H : Hp) : List SV → List V → Prop
  | nil : VsNew H [] []
  | cons {v : SV} {x : V} {vs : List SV} {xs : List V} : VNew H v x → VsNew H vs xs → VsNew H (v :: vs) (x :: xs)
def tA (K : PySem.W.Frag) (m : MA) : TA := fun σ H Q => ∃ F fm vs fm', Rel K F H σ fm ∧ m fm = some (vs, fm') ∧
  ∀ xs F' H', Aft K σ F H fm F' H' fm' → VsRel K F' H' σ fm' vs xs → VsNew H vs xs → Q xs H'
theorem VsRel.mono (a : Aft K σ F H fm F' H' fm') : ∀ {vs : List SV} {xs : List V}, VsRel K F H σ fm vs xs → VsRel K F' H' σ fm' vs xs
  | _, _, .nil => .nil
  | _, _, .cons h r d => .cons (a.val h) (VsRel.mono a r) d
theorem VsRel.len : ∀ {vs : List SV} {xs : List V}, VsRel K F H σ fm vs xs → vs.length = xs.length
  | _, _, .nil => rfl
  | _, _, .cons _ r _ => by simp [r.len]
theorem VsNew.back {L L' : Addr → Prop} (e : Ext L F H L' F' H') : ∀ {vs : List SV} {xs : List V}, VsNew H' vs xs → VsNew H vs xs
  | _, _, .nil => .nil
  | _, _, .cons h r => .cons (h.back e) (VsNew.back e r)
theorem VsNew.get : ∀ {vs : List SV} {xs : List V} {j : Nat} {v : SV} {x : V}, VsNew H vs xs → vs[j]? = some v → xs[j]? = some x → VNew H v x
  | _, _, _, _, _, .nil, h, _ => by simp at h
  | _, _, 0, _, _, .cons h _, e1, e2 => by simp at e1 e2; subst e1 e2; exact h
  | _, _, j + 1, _, _, .cons _ r, e1, e2 => VsNew.get (j := j) r (by simpa using e1) (by simpa using e2)

/-! ### judgements -/
structure AftS (K : PySem.W.Frag) (ro : List Nat) (σ : L2.St) (F H : Hp) (fm : Fm) (σ' : L2.St) (F' H' : Hp) (fm' : Fm) : Prop where
  ext : Ext (Live σ fm) F H (Live σ' fm') F' H'
  rel : Rel K F' H' σ' fm'
  pin : ∀ i ∈ ro, σ'[i]? = σ[i]?
theorem AftS.trans {ro : List Nat} {σ1 : L2.St} (a : AftS K ro σ F H fm σ1 F1 H1 fm1) (b : AftS K ro σ1 F1 H1 fm1 σ' F' H' fm') : AftS K ro σ F H fm σ' F' H' fm' :=
  ⟨a.ext.trans b.ext, b.rel, fun i hi => (b.pin i hi).trans (a.pin i hi)⟩
theorem AftS.refl {ro : List Nat} (R : Rel K F H σ fm) : AftS K ro σ F H fm σ F H fm := ⟨Ext.refl, R, fun _ _ => rfl⟩
theorem Aft.s {ro : List Nat} (a : Aft K σ F H fm F' H' fm') : AftS K ro σ F H fm σ F' H' fm' := ⟨a.ext, a.rel, fun _ _ => rfl⟩
def Out (K : PySem.W.Frag) (D : Ends) (H F' H' : Hp) (σ' : L2.St) (fm' : Fm) : Fl → Prop
  | .nx => D.nx σ' H'
  | .bk => D.bk σ' H'
  | .ct => D.ct σ' H'
  | .rt v => ∀ x, VRel K F' H' σ' fm' v x → VNew H v x → D.rt x H'
def tS (K : PySem.W.Frag) (ro : List Nat) (m : MS) : TS := fun D σ H => ∃ F fm fl fm', Rel K F H σ fm ∧ m fm = some (fl, fm') ∧
  ∀ σ' F' H', AftS K ro σ F H fm σ' F' H' fm' → Out K D H F' H' σ' fm' fl
end
def SE (X : Cx) (e : Expr) (m : ME) : Prop := PE X e (tE X.K m)
def ST (X : Cx) (e : Expr) (m : MT) : Prop := PT X e (tT X.K m)
def SW (X : Cx) (e : Expr) (m : MT) : Prop := PW X e (tT X.K m)
def SA (X : Cx) (es : List Expr) (m : MA) : Prop := PA X es (tA X.K m)
def SS (X : Cx) (ro : List Nat) (st : Stmt) (m : MS) : Prop := PS X st (tS X.K ro m)
def SSs (X : Cx) (ro : List Nat) (sts : List Stmt) (m : MS) : Prop := PSs X sts (tS X.K ro m)
section
variable {X : Cx} {e a b c : Expr} {es : List Expr} {pos p1 p2 : Pos} {st : Stmt} {sts : List Stmt} {ro : List Nat}
theorem pe_le {t t' : TE} (h : PE X e t) (k : ∀ σ H Q, t' σ H Q → t σ H Q) : PE X e t' := ⟨fun pins s σ H Q I q => h.run pins s σ H Q I (k σ H Q q)⟩
theorem pt_le {t t' : TT} (h : PT X e t) (k : ∀ σ H Q, t' σ H Q → t σ H Q) : PT X e t' := ⟨fun pins s σ H Q I q => h.run pins s σ H Q I (k σ H Q q)⟩
theorem pw_le {t t' : TT} (h : PW X e t) (k : ∀ σ H Q, t' σ H Q → t σ H Q) : PW X e t' := ⟨fun wh pins s σ H Q I q => h.run wh pins s σ H Q I (k σ H Q q)⟩
theorem pa_le {t t' : TA} (h : PA X es t) (k : ∀ σ H Q, t' σ H Q → t σ H Q) : PA X es t' := ⟨fun pos pins s σ H Q I q => h.run pos pins s σ H Q I (k σ H Q q)⟩
theorem ps_le {t t' : TS} (h : PS X st t) (k : ∀ D σ H, t' D σ H → t D σ H) : PS X st t' := ⟨fun pins s σ H D I q => h.run pins s σ H D I (k D σ H q)⟩
theorem pss_le {t t' : TS} (h : PSs X sts t) (k : ∀ D σ H, t' D σ H → t D σ H) : PSs X sts t' := ⟨fun pins s σ H D I q => h.run pins s σ H D I (k D σ H q)⟩

/-! ### names, constants -/
def mVar (i : Nat) : ME := fun fm => match fm[i]? with
  | some (some (.dat d)) => some (.dat d, fm)
  | some (some (.own _)) => some (.bor i, fm)
  | _ => none
theorem se_var (i : Nat) {x : Str} (hN : X.N[i]? = some x := by rfl) (hv : Vis X.env.scope x := by first | exact Or.inl rfl | exact Or.inr (Or.inl rfl) | exact Or.inr (Or.inr rfl)) (hd : (x == ("__debug__" : Str)) = false := by decide)
    (hcd : (x == ("__classdict__" : Str)) = false := by decide) : SE X (.Name x pos) (mVar i) := by
  refine pe_le (pe_var hN hv hd hcd) fun σ H Q ⟨F, fm, v, fm', R, em, q⟩ => ?_
  simp only [mVar] at em
  split at em
  · rename_i d hd
    cases em
    obtain ⟨y, hy, hD⟩ := R.dat i d hd
    exact ⟨y, hy, q y F H (Aft.refl R) hD VNew.dat⟩
  · rename_i c hd
    cases em
    obtain ⟨p, hy, hf, hc⟩ := R.own i c hd
    exact ⟨.ref p, hy, q _ F H (Aft.refl R) ⟨hy, _, hd⟩ trivial⟩
  · cases em
def mLit (d : PyData) : ME := fun fm => some (.dat d, fm)
theorem se_lit {v : V} {d : PyData} (h : PE X e (tC v)) (hd : ∀ K F, Dq K F v d) : SE X e (mLit d) :=
  pe_le h fun σ H Q ⟨F, fm, w, fm', R, em, q⟩ => by
    cases em
    exact q v F H (Aft.refl R) (hd _ _) VNew.dat
theorem se_int {i : Int} {j} : SE X (.Constant (.int i) j pos) (mLit (.int i)) := se_lit pe_int fun _ _ => .int i
theorem se_bl {i : Bool} {j} : SE X (.Constant (.bool i) j pos) (mLit (.bool i)) := se_lit pe_bl fun _ _ => .bl i
theorem se_non {j} : SE X (.Constant .none j pos) (mLit .none) := se_lit pe_non fun _ _ => .non
theorem se_str {i : Str} {j} : SE X (.Constant (.str i) j pos) (mLit (.str i)) := se_lit pe_str fun _ _ => .str i

/-! ### operations on two values -/
abbrev F2 := SV → SV → Fm → Option (SV × Fm)
def Prim2 (K : PySem.W.Frag) (r : R2) (f : F2) : Prop := ∀ (F H : Hp) (σ : L2.St) (fm fm' : Fm) (va vb : SV) (x y : V) (v : SV), Rel K F H σ fm → VRel K F H σ fm va x → VRel K F H σ fm vb y → f va vb fm = some (v, fm') →
  ∀ Q : VK, (∀ z F' H', Aft K σ F H fm F' H' fm' → VRel K F' H' σ fm' v z → VNew H v z → Q z H') → r x y H Q
def m2 (f : F2) (ma mb : ME) : ME := fun fm => match ma fm with
  | some (va, fm1) => match mb fm1 with
    | some (vb, fm2) => f va vb fm2
    | none => none
  | none => none
theorem m2_inv {f : F2} {ma mb : ME} {fm fm' : Fm} {v : SV} (h : m2 f ma mb fm = some (v, fm')) : ∃ va fm1 vb fm2, ma fm = some (va, fm1) ∧ mb fm1 = some (vb, fm2) ∧ f va vb fm2 = some (v, fm') := by
  unfold m2 at h
  split at h
  · rename_i va fm1 h1
    split at h
    · rename_i vb fm2 h2
      exact ⟨va, fm1, vb, fm2, h1, h2, h⟩
    · cases h
  · cases h
theorem tE_2 {K : PySem.W.Frag} {r : R2} {f : F2} {ma mb : ME} (P : Prim2 K r f) {σ : L2.St} {H : Hp} {Q : VK} (h : tE K (m2 f ma mb) σ H Q) : tOp r (tE K ma) (tE K mb) σ H Q := by
  obtain ⟨F, fm, v, fm', R, em, q⟩ := h
  obtain ⟨va, fm1, vb, fm2, e1, e2, e3⟩ := m2_inv em
  refine ⟨F, fm, va, fm1, R, e1, fun x F1 H1 A1 V1 N1 => ⟨F1, fm1, vb, fm2, A1.rel, e2, fun y F2 H2 A2 V2 N2 => ?_⟩⟩
  refine P F2 H2 σ fm2 fm' va vb x y v A2.rel (A2.val V1) V2 e3 Q fun z F3 H3 A3 V3 N3 => ?_
  exact q z F3 H3 ((A1.trans A2).trans A3) V3 ((A1.trans A2).new N3)
theorem se_op {op : Operator} {r : R2} {f : F2} {ma mb : ME} (ho : OpR X (binaryOp op) r) (P : Prim2 X.K r f) (ha : SE X a ma) (hb : SE X b mb) : SE X (.BinOp a op b pos) (m2 f ma mb) :=
  pe_le (pe_op ho ha hb) fun σ H Q h => tE_2 P h
theorem se_cmp {op : CmpOp} {r : R2} {f : F2} {ma mb : ME} (ho : OpR X (compareOp op) r) (P : Prim2 X.K r f) (ha : SE X a ma) (hb : SE X b mb) (hm : behindInMarks op b = false) : SE X (.Compare a [op] [b] pos) (m2 f ma mb) :=
  pe_le (pe_cmpR ho ha hb hm) fun σ H Q h => tE_2 P h
theorem se_ix {r : R2} {f : F2} {ma mb : ME} (ho : IxR X r) (P : Prim2 X.K r f) (ha : SE X a ma) (hb : SE X b mb) (hs : PlainIx b := by intro _ _; rfl) : SE X (.Subscript a b pos) (m2 f ma mb) :=
  pe_le (pe_ix ho ha hb hs) fun σ H Q h => tE_2 P h

/-! ### tests -/
def mB (m : ME) : MT := fun fm => match m fm with
  | some (.dat (.bool b), fm1) => some (b, fm1)
  | _ => none
theorem mB_inv {m : ME} {fm fm' : Fm} {k : Bool} (h : mB m fm = some (k, fm')) : m fm = some (.dat (.bool k), fm') := by
  unfold mB at h
  split at h
  · rename_i h1; cases h; exact h1
  · cases h
theorem tT_B {K : PySem.W.Frag} {m : ME} {σ : L2.St} {H : Hp} {Q : Bool → Hp → Prop} (h : tT K (mB m) σ H Q) : tE K m σ H fun x H1 => ∃ k, x = .bl k ∧ Q k H1 := by
  obtain ⟨F, fm, k, fm', R, em, q⟩ := h
  refine ⟨F, fm, _, fm', R, mB_inv em, fun x F' H' A V N => ?_⟩
  cases (show Dq K F' x (.bool k) from V)
  exact ⟨k, rfl, q F' H' A⟩
theorem st_val {m : ME} (h : SE X e m) (he : ∀ whole, isTrue e X.env whole = (do let v ← whole; standAt e.pos; holding [v] (truthy v)) := by intro _; rfl) : ST X e (mB m) :=
  pt_le (pt_val h he) fun σ H Q h => tT_B h
theorem st_cmp {op : CmpOp} {r : R2} {f : F2} {ma mb : ME} (ho : OpR X (compareOp op) r) (P : Prim2 X.K r f) (ha : SE X a ma) (hb : SE X b mb) (hm : behindInMarks op b = false) : ST X (.Compare a [op] [b] pos) (mB (m2 f ma mb)) :=
  pt_le (pt_cmpR ho ha hb hm) fun σ H Q h => by
    obtain ⟨F, fm, v, fm', R, em, q⟩ := tT_B h
    exact tE_2 P ⟨F, fm, v, fm', R, em, q⟩
def mAndT (m n : MT) : MT := fun fm => match m fm with
  | some (true, fm1) => n fm1
  | some (false, fm1) => some (false, fm1)
  | none => none
def mOrT (m n : MT) : MT := fun fm => match m fm with
  | some (false, fm1) => n fm1
  | some (true, fm1) => some (true, fm1)
  | none => none
def mNotT (m : MT) : MT := fun fm => match m fm with
  | some (k, fm1) => some (!k, fm1)
  | none => none
theorem tT_and {K : PySem.W.Frag} {m n : MT} {σ : L2.St} {H : Hp} {Q : Bool → Hp → Prop} (h : tT K (mAndT m n) σ H Q) : tAnd (tT K m) (tT K n) σ H Q := by
  obtain ⟨F, fm, k, fm', R, em, q⟩ := h
  unfold mAndT at em
  split at em
  · rename_i fm1 e1
    refine ⟨F, fm, true, _, R, e1, fun F1 H1 A1 => ?_⟩
    refine iteT ?_
    exact ⟨F1, fm1, k, fm', A1.rel, em, fun F2 H2 A2 => q F2 H2 (A1.trans A2)⟩
  · rename_i fm1 e1
    cases em
    refine ⟨F, fm, false, _, R, e1, fun F1 H1 A1 => ?_⟩
    refine iteF ?_
    exact q F1 H1 A1
  · cases em
theorem tT_or {K : PySem.W.Frag} {m n : MT} {σ : L2.St} {H : Hp} {Q : Bool → Hp → Prop} (h : tT K (mOrT m n) σ H Q) : tOr (tT K m) (tT K n) σ H Q := by
  obtain ⟨F, fm, k, fm', R, em, q⟩ := h
  unfold mOrT at em
  split at em
  · rename_i fm1 e1
    refine ⟨F, fm, false, _, R, e1, fun F1 H1 A1 => ?_⟩
    refine iteF ?_
    exact ⟨F1, fm1, k, fm', A1.rel, em, fun F2 H2 A2 => q F2 H2 (A1.trans A2)⟩
  · rename_i fm1 e1
    cases em
    refine ⟨F, fm, true, _, R, e1, fun F1 H1 A1 => ?_⟩
    refine iteT ?_
    exact q F1 H1 A1
  · cases em
theorem sw_st {m : MT} (h : SW X e m) : ST X e m := PW.pt h
theorem sw_and1 {m : MT} (h : ST X a m) : SW X (.BoolOp .And [a] pos) m := pw_and1 h
theorem sw_or1 {m : MT} (h : ST X a m) : SW X (.BoolOp .Or [a] pos) m := pw_or1 h
theorem sw_and {m n : MT} (h : ST X a m) (hb : SW X (.BoolOp .And (b :: es) pos) n) : SW X (.BoolOp .And (a :: b :: es) pos) (mAndT m n) :=
  pw_le (pw_and h hb) fun σ H Q h => tT_and h
theorem sw_or {m n : MT} (h : ST X a m) (hb : SW X (.BoolOp .Or (b :: es) pos) n) : SW X (.BoolOp .Or (a :: b :: es) pos) (mOrT m n) :=
  pw_le (pw_or h hb) fun σ H Q h => tT_or h
theorem st_not {m : MT} (h : ST X a m) : ST X (.UnaryOp .Not a pos) (mNotT m) :=
  pt_le (pt_not h) fun σ H Q ⟨F, fm, k, fm', R, em, q⟩ => by
    unfold mNotT at em
    split at em
    · rename_i k' fm1 e1
      cases em
      exact ⟨F, fm, k', _, R, e1, q⟩
    · cases em
/-- as values -/
def mAndV (ma mb : ME) : ME := fun fm => match ma fm with
  | some (.dat (.bool true), fm1) => mb fm1
  | some (.dat (.bool false), fm1) => some (.dat (.bool false), fm1)
  | _ => none
def mOrV (ma mb : ME) : ME := fun fm => match ma fm with
  | some (.dat (.bool false), fm1) => mb fm1
  | some (.dat (.bool true), fm1) => some (.dat (.bool true), fm1)
  | _ => none
def mNotV (ma : ME) : ME := fun fm => match ma fm with
  | some (.dat (.bool k), fm1) => some (.dat (.bool (!k)), fm1)
  | _ => none
theorem se_one {op} {m : ME} (h : SE X a m) : SE X (.BoolOp op [a] pos) m := pe_one h
theorem se_and {ma mb : ME} (ha : SE X a ma) (hb : SE X (.BoolOp .And (b :: es) pos) mb) : SE X (.BoolOp .And (a :: b :: es) pos) (mAndV ma mb) :=
  pe_le (pe_and ha hb) fun σ H Q ⟨F, fm, v, fm', R, em, q⟩ => by
    unfold mAndV at em
    split at em
    · rename_i fm1 e1
      refine ⟨F, fm, _, _, R, e1, fun x F1 H1 A1 V1 N1 => ?_⟩
      cases (show Dq X.K F1 x (.bool true) from V1)
      refine ⟨true, rfl, ?_⟩
      refine iteT ?_
      exact ⟨F1, fm1, v, fm', A1.rel, em, fun y F2 H2 A2 V2 N2 => q y F2 H2 (A1.trans A2) V2 (A1.new N2)⟩
    · rename_i fm1 e1
      cases em
      refine ⟨F, fm, _, _, R, e1, fun x F1 H1 A1 V1 N1 => ?_⟩
      cases (show Dq X.K F1 x (.bool false) from V1)
      refine ⟨false, rfl, ?_⟩
      refine iteF ?_
      exact q _ F1 H1 A1 (.bl false) VNew.dat
    · cases em
theorem se_or {ma mb : ME} (ha : SE X a ma) (hb : SE X (.BoolOp .Or (b :: es) pos) mb) : SE X (.BoolOp .Or (a :: b :: es) pos) (mOrV ma mb) :=
  pe_le (pe_or ha hb) fun σ H Q ⟨F, fm, v, fm', R, em, q⟩ => by
    unfold mOrV at em
    split at em
    · rename_i fm1 e1
      refine ⟨F, fm, _, _, R, e1, fun x F1 H1 A1 V1 N1 => ?_⟩
      cases (show Dq X.K F1 x (.bool false) from V1)
      refine ⟨false, rfl, ?_⟩
      refine iteF ?_
      exact ⟨F1, fm1, v, fm', A1.rel, em, fun y F2 H2 A2 V2 N2 => q y F2 H2 (A1.trans A2) V2 (A1.new N2)⟩
    · rename_i fm1 e1
      cases em
      refine ⟨F, fm, _, _, R, e1, fun x F1 H1 A1 V1 N1 => ?_⟩
      cases (show Dq X.K F1 x (.bool true) from V1)
      refine ⟨true, rfl, ?_⟩
      refine iteT ?_
      exact q _ F1 H1 A1 (.bl true) VNew.dat
    · cases em
theorem se_not {ma : ME} (ha : SE X a ma) : SE X (.UnaryOp .Not a pos) (mNotV ma) :=
  pe_le (pe_not ha) fun σ H Q ⟨F, fm, v, fm', R, em, q⟩ => by
    unfold mNotV at em
    split at em
    · rename_i k fm1 e1
      cases em
      refine ⟨F, fm, _, _, R, e1, fun x F1 H1 A1 V1 N1 => ?_⟩
      cases (show Dq X.K F1 x (.bool k) from V1)
      exact ⟨k, rfl, q _ F1 H1 A1 (.bl _) VNew.dat⟩
    · cases em
def mIfE (mc : MT) (ma mb : ME) : ME := fun fm => match mc fm with
  | some (true, fm1) => ma fm1
  | some (false, fm1) => mb fm1
  | none => none
theorem se_ife {mc : MT} {ma mb : ME} (hc : ST X c mc) (ha : SE X a ma) (hb : SE X b mb) : SE X (.IfExp c a b pos) (mIfE mc ma mb) :=
  pe_le (pe_ifExp hc ha hb) fun σ H Q ⟨F, fm, v, fm', R, em, q⟩ => by
    unfold mIfE at em
    split at em
    · rename_i fm1 e1
      refine ⟨F, fm, _, _, R, e1, fun F1 H1 A1 => ?_⟩
      refine iteT ?_
      exact ⟨F1, fm1, v, fm', A1.rel, em, fun y F2 H2 A2 V2 N2 => q y F2 H2 (A1.trans A2) V2 (A1.new N2)⟩
    · rename_i fm1 e1
      refine ⟨F, fm, _, _, R, e1, fun F1 H1 A1 => ?_⟩
      refine iteF ?_
      exact ⟨F1, fm1, v, fm', A1.rel, em, fun y F2 H2 A2 V2 N2 => q y F2 H2 (A1.trans A2) V2 (A1.new N2)⟩
    · cases em

/-! ### argument lists, displays -/
def mNil : MA := fun fm => some ([], fm)
def mCons (ma : ME) (mr : MA) : MA := fun fm => match ma fm with
  | some (v, fm1) => match mr fm1 with
    | some (vs, fm2) => some (v :: vs, fm2)
    | none => none
  | none => none
theorem sa_nil : SA X [] mNil := pa_le pa_nil fun σ H Q ⟨F, fm, vs, fm', R, em, q⟩ => by
  cases em
  exact q [] F H (Aft.refl R) .nil .nil
theorem sa_cons {ma : ME} {mr : MA} (ha : SE X e ma) (hr : SA X es mr) (hs : starEach (e :: es) X.env = (false, eval e X.env) :: starEach es X.env := by rfl) : SA X (e :: es) (mCons ma mr) :=
  pa_le (pa_cons ha hr hs) fun σ H Q ⟨F, fm, vs, fm', R, em, q⟩ => by
    unfold mCons at em
    split at em
    · rename_i v fm1 e1
      split at em
      · rename_i ws fm2 e2
        cases em
        refine ⟨F, fm, v, fm1, R, e1, fun x F1 H1 A1 V1 N1 => ⟨F1, fm1, ws, _, A1.rel, e2, fun xs F2 H2 A2 V2 N2 => ?_⟩⟩
        refine q (x :: xs) F2 H2 (A1.trans A2) (.cons (A2.val V1) V2 fun c ec j c' ej z => ?_) (.cons N1 (N2.back A1.ext))
        subst ec
        obtain ⟨p, rfl, hf, hc, hl⟩ := V1
        obtain ⟨o, ho⟩ := hc.some'
        have := N2.get ej z p rfl
        rw [ho] at this; cases this
      · cases em
    · cases em
theorem frzAll_ok {K : PySem.W.Frag} {L : Addr → Prop} {F0 H0 : Hp} {σ : L2.St} {H : Hp} : ∀ {vs : List SV} {xs : List V} {F : Hp} {fm fm' : Fm} {ds : List PyData}, Ext L F0 H0 (Live σ fm) F H → Rel K F H σ fm → VsRel K F H σ fm vs xs → VsNew H0 vs xs → frzAll vs fm = some (ds, fm') →
    ∃ F', Ext L F0 H0 (Live σ fm') F' H ∧ Same F F' ∧ Rel K F' H σ fm' ∧ DqAll K F' xs ds ∧ Keeps fm fm'
  | _, _, F, fm, fm', ds, E, R, .nil, _, h => by
    cases h
    exact ⟨F, E, Same.refl _, R, .nil, Keeps.refl _⟩
  | _, _, F, fm, fm', ds, E, R, .cons (v := v) (x := x) (vs := vs) (xs := xs) hv hr hd, .cons hn hnr, h => by
    simp only [frzAll] at h
    split at h
    · rename_i d fm1 e1
      split at h
      · rename_i ds' fm2 e2
        cases h
        obtain ⟨F1, E1, Ea, s1, R1, D1, k1, hnew⟩ := frz_ok E R hv hn e1
        have hr1 : VsRel K F1 H σ fm1 vs xs := by
          clear e2 hnr
          induction hr with
          | nil => exact .nil
          | cons h2 r2 d2 ih =>
            rename_i v2 x2 vs2 xs2
            refine .cons ?_ (ih fun c ec j c' ej => hd c ec (j + 1) c' (by simpa using ej)) d2
            cases v2 with
            | dat d' => exact dp_mono s1 h2
            | bor i =>
              obtain ⟨h3, s, h4⟩ := h2
              exact ⟨h3, k1 i s h4⟩
            | fre c2 =>
              obtain ⟨p, rfl, hf, hc, hl⟩ := h2
              refine ⟨p, rfl, ?_, hc.mono s1 fun _ h => h, fun q => ?_⟩
              · cases q : F1 p with
                | none => rfl
                | some u =>
                  rcases hnew p u q with z | z | ⟨z, c, ec⟩
                  · rw [hf] at z; cases z
                  · exact absurd z hl
                  · exact absurd (by rw [z]; rfl) (hd c ec 0 c2 rfl)
              · rcases Ea.live p q with z | z
                · exact hl z
                · obtain ⟨o, ho⟩ := hc.some'
                  rw [ho] at z; cases z
        obtain ⟨F2, E2, s2, R2, D2, k2⟩ := frzAll_ok E1 R1 hr1 hnr e2
        exact ⟨F2, E2, s1.trans s2, R2, .cons (dp_mono s2 D1) D2, k1.trans k2⟩
      · cases h
    · cases h
/-- the values of a list of expressions, frozen -/
theorem aft_frzAll {K : PySem.W.Frag} {F F1 H H1 : Hp} {σ : L2.St} {fm fm1 fm' : Fm} {vs : List SV} {xs : List V} {ds : List PyData} (A : Aft K σ F H fm F1 H1 fm1) (V : VsRel K F1 H1 σ fm1 vs xs) (N : VsNew H vs xs) (h : frzAll vs fm1 = some (ds, fm')) :
    ∃ F', Aft K σ F H fm F' H1 fm' ∧ DqAll K F' xs ds := by
  obtain ⟨F2, E2, s2, R2, D2, k2⟩ := frzAll_ok A.ext A.rel V N h
  exact ⟨F2, ⟨E2, A.kp.trans k2, R2⟩, D2⟩
def mDisp (mk : List PyData → SV) (m : MA) : ME := fun fm => match m fm with
  | some (vs, fm1) => match frzAll vs fm1 with
    | some (ds, fm2) => if ds.length ≤ sizeLine then some (mk ds, fm2) else none
    | none => none
  | none => none
def mLst : MA → ME := mDisp fun ds => .fre (.lst ds)
def mTup : MA → ME := mDisp fun ds => .dat (.tuple ds)
theorem mDisp_inv {mk : List PyData → SV} {m : MA} {fm fm' : Fm} {v : SV} (h : mDisp mk m fm = some (v, fm')) : ∃ vs fm1 ds, m fm = some (vs, fm1) ∧ frzAll vs fm1 = some (ds, fm') ∧ ds.length ≤ sizeLine ∧ v = mk ds := by
  unfold mDisp at h
  split at h
  · rename_i vs fm1 h1
    split at h
    · rename_i ds fm2 h2
      split at h
      · rename_i hl
        cases h
        exact ⟨vs, fm1, ds, h1, h2, hl, rfl⟩
      · cases h
    · cases h
  · cases h
theorem se_lst {m : MA} (h : SA X es m) : SE X (.List es pos) (mLst m) :=
  pe_le (pe_lst h) fun σ H Q ⟨F, fm, v, fm', R, em, q⟩ => by
    obtain ⟨vs, fm1, ds, e1, e2, hl, rfl⟩ := mDisp_inv em
    refine ⟨F, fm, vs, fm1, R, e1, fun xs F1 H1 A1 V1 N1 => ?_⟩
    obtain ⟨F2, A2, D2⟩ := aft_frzAll A1 V1 N1 e2
    refine ⟨by rw [dpAll_len D2]; exact hl, fun p hp => ?_⟩
    exact q _ F2 _ (A2.trans (Aft.lay A2.rel hp)) (Aft.newL A2.rel hp D2) (VNew.ref (A2.ext.grow p hp))
/-- a new tuple, known as the plain object that it is -/
def rNewP (xs : List V) (H : Hp) (Q : VK) : Prop := ∀ (p : Addr) (o : Obj), H p = none → o.dict = none → Q (.ref p) (upd H p (.frz o (.tup xs)))
theorem inv_newP {pins : List (Addr × Obj)} {σ : L2.St} {H : Hp} {s : Shared} {xs : List V} {its : List Value} {t' : Nat} (I : Inv X pins σ H s) (r : Vals xs its) (hz : xs.length ≤ sizeLine) {o : Obj} (ho : o = { cls := .type "tuple", data := .seq its.toArray }) :
    Inv X pins σ (upd H s.heap.objs.size (.frz o (.tup xs))) { s with heap := s.heap.push o, toks := t' } := by
  subst ho
  refine I.laid (t' := t') (fun b u e => Heap.get?_push_of_some _ e) (Nat.le_refl _) ?_
  exact ⟨Heap.get?_push_size _ rfl, hz, its, r, ⟨_, Heap.get?_push_size _ rfl, rfl, _, rfl⟩⟩
def tTupP (t : TA) : TE := fun σ H Q => t σ H fun xs H1 => xs.length ≤ sizeLine ∧ rNewP xs H1 Q
theorem pe_tupP {t : TA} {x1} (h : PA X es t) : PE X (.Tuple es x1 pos) (tTupP t) := by
  refine ⟨fun pins s σ H Q I hq => ?_⟩
  refine wpAny_Tuple_spliced (thn (h.run pos pins s σ H _ I hq) fun us s1 out => ?_)
  obtain ⟨xs, H1, I1, r, z, q⟩ := out
  exact ⟨by rw [← r.length]; exact z, .ref s1.heap.objs.size, _, inv_newP (t' := s1.toks) I1 r z rfl, rfl, q _ _ (I1.hok.fresh (Nat.le_refl _)) rfl⟩
theorem se_tup {m : MA} {x1} (h : SA X es m) : SE X (.Tuple es x1 pos) (mTup m) :=
  pe_le (pe_tupP h) fun σ H Q ⟨F, fm, v, fm', R, em, q⟩ => by
    obtain ⟨vs, fm1, ds, e1, e2, hl, rfl⟩ := mDisp_inv em
    refine ⟨F, fm, vs, fm1, R, e1, fun xs F1 H1 A1 V1 N1 => ?_⟩
    obtain ⟨F2, A2, D2⟩ := aft_frzAll A1 V1 N1 e2
    refine ⟨by rw [dpAll_len D2]; exact hl, fun p o hp hd => ?_⟩
    exact q _ _ _ (A2.trans (Aft.layF A2.rel hp)) (Aft.newT A2.rel hp hd D2) VNew.dat
end
end Rf

namespace Rf
open PySem L2

/-! ### stores into slots -/
section
variable {K : PySem.W.Frag} {F F' H H' : Hp} {σ σ' : L2.St} {fm fm' : Fm} {x : V} {i : Nat}
theorem get_set {α : Type} {l : List α} {i j : Nat} {a b : α} (h : (l.set i a)[j]? = some b) : (i = j ∧ b = a ∧ i < l.length) ∨ (i ≠ j ∧ l[j]? = some b) := by
  by_cases e : i = j
  · subst e
    have hl : i < l.length := by
      obtain ⟨hl, _⟩ := List.getElem?_eq_some_iff.mp h
      simpa using hl
    rw [List.getElem?_set_self hl] at h
    exact .inl ⟨rfl, (Option.some.inj h).symm, hl⟩
  · rw [List.getElem?_set_ne e] at h
    exact .inr ⟨e, h⟩
theorem Rel.setDat {d : PyData} (R : Rel K F H σ fm) (hd : Dq K F x d) : Rel K F H (σ.set i (some x)) (fm.set i (some (.dat d))) := by
  have hl := R.len
  refine ⟨R.sub, by rw [List.length_set, List.length_set]; exact hl, fun j d' h => ?_, fun j c h => ?_, fun j k c c' p hne h1 h2 h3 => ?_⟩
  · rcases get_set h with ⟨rfl, e, hi⟩ | ⟨ne, h⟩
    · cases e
      exact ⟨x, List.getElem?_set_self (by rw [← hl]; exact hi), hd⟩
    · rw [List.getElem?_set_ne ne]; exact R.dat j d' h
  · rcases get_set h with ⟨rfl, e, hi⟩ | ⟨ne, h⟩
    · cases e
    · rw [List.getElem?_set_ne ne]; exact R.own j c h
  · rcases get_set h1 with ⟨rfl, e, hi⟩ | ⟨ne, h1⟩
    · cases e
    · rcases get_set h2 with ⟨rfl, e, hi⟩ | ⟨ne2, h2⟩
      · cases e
      · rw [List.getElem?_set_ne ne] at h3
        rw [List.getElem?_set_ne ne2]
        exact R.apart j k c c' p hne h1 h2 h3
theorem Rel.setOwn {c : Cell} {p : Addr} (R : Rel K F H σ fm) (hf : F p = none) (hc : CRel K F H p c) (hn : ¬ Live σ fm p) : Rel K F H (σ.set i (some (.ref p))) (fm.set i (some (.own c))) := by
  have hl := R.len
  refine ⟨R.sub, by rw [List.length_set, List.length_set]; exact hl, fun j d' h => ?_, fun j c' h => ?_, fun j k c1 c2 q hne h1 h2 h3 => ?_⟩
  · rcases get_set h with ⟨rfl, e, hi⟩ | ⟨ne, h⟩
    · cases e
    · rw [List.getElem?_set_ne ne]; exact R.dat j d' h
  · rcases get_set h with ⟨rfl, e, hi⟩ | ⟨ne, h⟩
    · cases e
      exact ⟨p, List.getElem?_set_self (by rw [← hl]; exact hi), hf, hc⟩
    · rw [List.getElem?_set_ne ne]; exact R.own j c' h
  · rcases get_set h1 with ⟨rfl, e, hi⟩ | ⟨ne, h1⟩
    · rcases get_set h2 with ⟨rfl, e2, hi2⟩ | ⟨ne2, h2⟩
      · exact absurd rfl hne
      · rw [List.getElem?_set_self (by rw [← hl]; exact hi)] at h3
        cases h3
        rw [List.getElem?_set_ne ne2]
        exact fun z => hn ⟨k, c2, h2, z⟩
    · rw [List.getElem?_set_ne ne] at h3
      rcases get_set h2 with ⟨rfl, e2, hi2⟩ | ⟨ne2, h2⟩
      · rw [List.getElem?_set_self (by rw [← hl]; exact hi2)]
        intro z
        cases z
        exact hn ⟨j, c1, h1, h3⟩
      · rw [List.getElem?_set_ne ne2]
        exact R.apart j k c1 c2 q hne h1 h2 h3
theorem live_setDat {d : PyData} {a : Addr} (h : Live (σ.set i (some x)) (fm.set i (some (.dat d))) a) : Live σ fm a := by
  obtain ⟨j, c, h1, h2⟩ := h
  rcases get_set h1 with ⟨rfl, e, _⟩ | ⟨ne, h1⟩
  · cases e
  · rw [List.getElem?_set_ne ne] at h2
    exact ⟨j, c, h1, h2⟩
theorem live_setOwn {c : Cell} {p a : Addr} (h : Live (σ.set i (some (.ref p))) (fm.set i (some (.own c))) a) : Live σ fm a ∨ a = p := by
  obtain ⟨j, c', h1, h2⟩ := h
  rcases get_set h1 with ⟨rfl, e, _⟩ | ⟨ne, h1⟩
  · rcases get_set h2 with ⟨_, e2, _⟩ | ⟨ne, _⟩
    · cases e2; exact .inr rfl
    · exact absurd rfl ne
  · rw [List.getElem?_set_ne ne] at h2
    exact .inl ⟨j, c', h1, h2⟩
/-- the value v into slot i -/
def sto (i : Nat) (v : SV) (fm : Fm) : Option Fm := match v with
  | .dat d => some (fm.set i (some (.dat d)))
  | .fre c => some (fm.set i (some (.own c)))
  | .bor j => match frz (.bor j) fm with
    | some (d, fm1) => some (fm1.set i (some (.dat d)))
    | none => none
theorem sto_ok {ro : List Nat} {F0 H0 : Hp} {fm0 : Fm} {v : SV} (hi : i ∉ ro) (A : Aft K σ F0 H0 fm0 F H fm) (V : VRel K F H σ fm v x) (N : VNew H0 v x) (h : sto i v fm = some fm') :
    ∃ F', AftS K ro σ F0 H0 fm0 (σ.set i (some x)) F' H fm' := by
  have pin : ∀ j ∈ ro, (σ.set i (some x))[j]? = σ[j]? := fun j hj => List.getElem?_set_ne fun e => hi (by rw [e]; exact hj)
  cases v with
  | dat d =>
    cases h
    exact ⟨F, ⟨A.ext.same, A.ext.keep, A.ext.new, fun a q => A.ext.live a (live_setDat q), A.ext.grow⟩, A.rel.setDat V, pin⟩
  | fre c =>
    cases h
    obtain ⟨p, rfl, hf, hc, hn⟩ := V
    refine ⟨F, ⟨A.ext.same, A.ext.keep, A.ext.new, fun a q => ?_, A.ext.grow⟩, A.rel.setOwn hf hc hn, pin⟩
    rcases live_setOwn q with q | rfl
    · exact A.ext.live a q
    · exact .inr (N _ rfl)
  | bor j =>
    simp only [sto] at h
    split at h
    · rename_i d fm1 e1
      cases h
      obtain ⟨F1, E1, Ea, s1, R1, D1, k1, hnew⟩ := frz_ok A.ext A.rel V N e1
      exact ⟨F1, ⟨E1.same, E1.keep, E1.new, fun a q => E1.live a (live_setDat q), E1.grow⟩, R1.setDat D1, pin⟩
    · cases h
end

/-! ### targets: data into names -/
/-- how an item of a walk stands for data: Dq; or a tuple of which no more is known -/
abbrev RLT := Hp → V → PyData → Prop
def Dw (K : PySem.W.Frag) : RLT := fun F v d => Dq K F v d ∨ ∃ a xs ds, v = .ref a ∧ d = .tuple ds ∧ SqT K F a xs ∧ DqAll K F xs ds
def RMon (Rl : RLT) : Prop := ∀ F F' v d, Same F F' → Rl F v d → Rl F' v d
theorem rmon_q {K : PySem.W.Frag} : RMon (Dq K) := fun _ _ _ _ s h => dp_mono s h
theorem rmon_w {K : PySem.W.Frag} : RMon (Dw K) := fun _ _ _ _ s h => h.elim (fun h => .inl (dp_mono s h)) fun ⟨a, xs, ds, h1, h2, h3, h4⟩ => .inr ⟨a, xs, ds, h1, h2, sqT_mono s h3, dpAll_mono s h4⟩
abbrev MG := PyData → Fm → Option Fm
def tG (K : PySem.W.Frag) (Rl : RLT) (ro : List Nat) (m : MG) : TG := fun x σ H Q => ∃ F fm d fm', Rel K F H σ fm ∧ Rl F x d ∧ m d fm = some fm' ∧ ∀ σ' F' H', AftS K ro σ F H fm σ' F' H' fm' → Q σ' H'
def SG (X : Cx) (Rl : RLT) (ro : List Nat) (tg : Expr) (m : MG) : Prop := PG X tg (tG X.K Rl ro m)
abbrev MGs := List PyData → Fm → Option Fm
def tGs (K : PySem.W.Frag) (ro : List Nat) (m : MGs) : TGs := fun xs σ H Q => ∃ F fm ds fm', Rel K F H σ fm ∧ DqAll K F xs ds ∧ m ds fm = some fm' ∧ ∀ σ' F' H', AftS K ro σ F H fm σ' F' H' fm' → Q σ' H'
def SGs (X : Cx) (ro : List Nat) (tgs : List Expr) (m : MGs) : Prop := PGs X tgs (tGs X.K ro m)
section
variable {X : Cx} {e a b c tg : Expr} {es : List Expr} {pos p1 p2 : Pos} {st : Stmt} {sts : List Stmt} {ro : List Nat}
theorem pg_le {t t' : TG} (h : PG X tg t) (k : ∀ x σ H Q, t' x σ H Q → t x σ H Q) : PG X tg t' := ⟨fun pins s σ H v u Q I r q => h.run pins s σ H v u Q I r (k v σ H Q q)⟩
theorem pgs_le {t t' : TGs} (h : PGs X es t) (k : ∀ x σ H Q, t' x σ H Q → t x σ H Q) : PGs X es t' := ⟨fun pins s σ H v u Q I r q => h.run pins s σ H v u Q I r (k v σ H Q q)⟩
theorem sg_weak {m : MG} (h : SG X (Dw X.K) ro tg m) : SG X (Dq X.K) ro tg m := pg_le h fun x σ H Q ⟨F, fm, d, fm', R, D, em, q⟩ => ⟨F, fm, d, fm', R, .inl D, em, q⟩
def gSet (i : Nat) : MG := fun d fm => some (fm.set i (some (.dat d)))
theorem sg_name {i : Nat} {x : Str} (hN : X.N.Nodup) (hro : i ∉ ro) (hi : X.N[i]? = some x) (hx : Loc X.env.scope x) (hf : X.fn x = true ∨ X.env.scope.names.lookup x = some .local) : SG X (Dq X.K) ro (.Name x pos) (gSet i) :=
  pg_le (pg_name hN hi hx hf) fun x σ H Q ⟨F, fm, d, fm', R, D, em, q⟩ => by
    cases em
    obtain ⟨F', A⟩ := sto_ok (v := .dat d) hro (Aft.refl R) D VNew.dat rfl
    exact q _ F' H A
def gsNil : MGs := fun ds fm => match ds with
  | [] => some fm
  | _ => none
def gsCons (g : MG) (r : MGs) : MGs := fun ds fm => match ds with
  | d :: ds => match g d fm with
    | some fm1 => r ds fm1
    | none => none
  | [] => none
theorem sgs_nil : SGs X ro [] gsNil := pgs_le pgs_nil fun xs σ H Q ⟨F, fm, ds, fm', R, D, em, q⟩ => by
  cases D with
  | nil =>
    cases em
    exact ⟨rfl, q σ F H (AftS.refl R)⟩
  | cons _ _ => cases em
theorem sgs_cons {g : MG} {r : MGs} (h1 : SG X (Dq X.K) ro e g) (h2 : SGs X ro es r) (hs : (assignEach (e :: es) X.env).map (·.2) = assign e X.env :: (assignEach es X.env).map (·.2) := by rfl) : SGs X ro (e :: es) (gsCons g r) :=
  pgs_le (pgs_cons h1 h2 hs) fun xs σ H Q ⟨F, fm, ds, fm', R, D, em, q⟩ => by
    cases D with
    | nil => cases em
    | cons D1 D2 =>
      simp only [gsCons] at em
      split at em
      · rename_i fm1 e1
        refine ⟨_, _, rfl, F, fm, _, fm1, R, D1, e1, fun σ1 F1 H1 A1 => ⟨F1, fm1, _, fm', A1.rel, dpAll_mono A1.ext.same D2, em, fun σ2 F2 H2 A2 => q σ2 F2 H2 (A1.trans A2)⟩⟩
      · cases em
def gTupD (n : Nat) (r : MGs) : MG := fun d fm => match d with
  | .tuple ds => if ds.length = n then r ds fm else none
  | .list ds => if ds.length = n then r ds fm else none
  | _ => none
theorem pg_either {tg : Expr} {t t' : TG} (h : PG X tg t) (h' : PG X tg t') : PG X tg (fun v σ H Q => t v σ H Q ∨ t' v σ H Q) :=
  ⟨fun pins s σ H v u Q I r hw => hw.elim (fun q => h.run pins s σ H v u Q I r q) fun q => h'.run pins s σ H v u Q I r q⟩
theorem Dw.lst {K : PySem.W.Frag} {F : Hp} {x : V} {ds : List PyData} (h : Dw K F x (.list ds)) : ∃ a xs, x = .ref a ∧ SqL K F a xs ∧ DqAll K F xs ds := by
  rcases h with h | ⟨a, xs, ds', rfl, e, h1, h2⟩
  · cases h with
    | lst s r => exact ⟨_, _, rfl, s, r⟩
  · cases e
theorem Dw.tup {K : PySem.W.Frag} {F : Hp} {x : V} {ds : List PyData} (h : Dw K F x (.tuple ds)) : ∃ a xs, x = .ref a ∧ SqT K F a xs ∧ DqAll K F xs ds := by
  rcases h with h | ⟨a, xs, ds', rfl, e, h1, h2⟩
  · cases h with
    | tup s r => exact ⟨_, _, rfl, s.1, r⟩
  · cases e; exact ⟨a, xs, rfl, h1, h2⟩
theorem sg_tup {k : Nat} {r : MGs} {n : Nat} (hc : X.calm = true) (h : SGs X ro es r) (hn : (assignEach es X.env).length = n := by rfl) (hst : (assignEach es X.env).findIdx? (·.1) = none := by rfl) : SG X (Dw X.K) ro (.Tuple es k pos) (gTupD n r) :=
  pg_le (pg_either (pg_tup hc h hn hst) (pg_unl hc h hn hst)) fun x σ H Q ⟨F, fm, d, fm', R, D, em, q⟩ => by
    unfold gTupD at em
    split at em
    · rename_i ds
      split at em
      · rename_i hl
        obtain ⟨a, xs, rfl, s, r⟩ := D.tup
        exact .inl ⟨_, _, rfl, sqT_mono R.sub s, (dpAll_len r).trans hl, F, fm, ds, fm', R, r, em, q⟩
      · cases em
    · rename_i ds
      split at em
      · rename_i hl
        obtain ⟨a, xs, rfl, s, r⟩ := D.lst
        exact .inr ⟨_, _, rfl, R.sub.seq s, (dpAll_len r).trans hl, F, fm, ds, fm', R, r, em, q⟩
      · cases em
    · cases em

/-! ### statements -/
def mSet (i : Nat) (m : ME) : MS := fun fm => match m fm with
  | some (v, fm1) => match sto i v fm1 with
    | some fm2 => some (.nx, fm2)
    | none => none
  | none => none
theorem tS_set {K : PySem.W.Frag} {i : Nat} {m : ME} (hro : i ∉ ro) {D : Ends} {σ : L2.St} {H : Hp} (h : tS K ro (mSet i m) D σ H) : tAsg (tE K m) (gName i) D σ H := by
  obtain ⟨F, fm, fl, fm', R, em, q⟩ := h
  unfold mSet at em
  split at em
  · rename_i v fm1 e1
    split at em
    · rename_i fm2 e2
      cases em
      refine ⟨F, fm, v, fm1, R, e1, fun x F1 H1 A1 V1 N1 => ?_⟩
      obtain ⟨F2, A2⟩ := sto_ok hro A1 V1 N1 e2
      exact q _ F2 H1 A2
    · cases em
  · cases em
theorem ss_set {i : Nat} {x : Str} {m : ME} {pos' : Pos} (hN : X.N.Nodup) (hro : i ∉ ro) (hi : X.N[i]? = some x) (hx : Loc X.env.scope x) (he : SE X e m) (hs : swapsWith e (some (.Name x pos')) pos.line X.env = pure false)
    (hf : X.fn x = true ∨ X.env.scope.names.lookup x = some .local) : SS X ro (.Assign [.Name x pos'] e pos) (mSet i m) :=
  ps_le (ps_set hN hi hx he hs hf) fun D σ H h => tS_set hro h
/-- a target = e, the value frozen -/
def mAsg (g : MG) (m : ME) : MS := fun fm => match m fm with
  | some (v, fm1) => match frz v fm1 with
    | some (d, fm2) => match g d fm2 with
      | some fm3 => some (.nx, fm3)
      | none => none
    | none => none
  | none => none
theorem ss_asg {g : MG} {m : ME} (he : SE X e m) (hg : SG X (Dq X.K) ro tg g) (hs : swapsWithSole [tg] e pos.line X.env = pure false) (hw : swappedStores [tg] e X.env = pure none)
    (h1 : (assignEach [tg] X.env).map (·.2) = [assign tg X.env] := by rfl) : SS X ro (.Assign [tg] e pos) (mAsg g m) :=
  ps_le (ps_asg he hg hs hw h1) fun D σ H ⟨F, fm, fl, fm', R, em, q⟩ => by
    unfold mAsg at em
    split at em
    · rename_i v fm1 e1
      split at em
      · rename_i d fm2 e2
        split at em
        · rename_i fm3 e3
          cases em
          refine ⟨F, fm, v, fm1, R, e1, fun x F1 H1 A1 V1 N1 => ?_⟩
          obtain ⟨F2, E2, Ea, s2, R2, D2, k2, hnew⟩ := frz_ok A1.ext A1.rel V1 N1 e2
          refine ⟨F2, fm2, d, _, R2, D2, e3, fun σ3 F3 H3 A3 => q σ3 F3 H3 ?_⟩
          exact AftS.trans ⟨E2, R2, fun _ _ => rfl⟩ A3
        · cases em
      · cases em
    · cases em
end

/-! ### several values at once -/
section
variable {K : PySem.W.Frag} {F F' F1 H H' : Hp} {σ σ' : L2.St} {fm fm' fm1 : Fm} {x : V} {i : Nat} {ro : List Nat}
def res1 : SV → Fm → Option (SV × Fm)
  | .bor j, fm => match frz (.bor j) fm with
    | some (d, fm1) => some (.dat d, fm1)
    | none => none
  | .dat d, fm => some (.dat d, fm)
  | .fre c, fm => some (.fre c, fm)
def resAll : List SV → Fm → Option (List SV × Fm)
  | [], fm => some ([], fm)
  | v :: vs, fm => match res1 v fm with
    | some (w, fm1) => match resAll vs fm1 with
      | some (ws, fm2) => some (w :: ws, fm2)
      | none => none
    | none => none
theorem VsRel.frz (s1 : Same F F1) (k1 : Keeps fm fm1) (hnew : ∀ a o, F1 a = some o → F a = some o ∨ Live σ fm a) (hlive : ∀ a, Live σ fm1 a → Live σ fm a) : ∀ {vs : List SV} {xs : List V}, VsRel K F H σ fm vs xs → VsRel K F1 H σ fm1 vs xs
  | _, _, .nil => .nil
  | _, _, .cons (v := v2) h2 r2 d2 => by
    refine .cons ?_ (VsRel.frz s1 k1 hnew hlive r2) d2
    cases v2 with
    | dat d' => exact dp_mono s1 h2
    | bor i =>
      obtain ⟨h3, s, h4⟩ := h2
      exact ⟨h3, k1 i s h4⟩
    | fre c2 =>
      obtain ⟨p, rfl, hf, hc, hl⟩ := h2
      refine ⟨p, rfl, ?_, hc.mono s1 fun _ h => h, fun q => hl (hlive p q)⟩
      cases q : F1 p with
      | none => rfl
      | some u =>
        rcases hnew p u q with z | z
        · rw [hf] at z; cases z
        · exact absurd z hl
theorem resAll_ok {F0 H0 : Hp} {fm0 : Fm} : ∀ {vs ws : List SV} {xs : List V} {F : Hp} {fm fm' : Fm}, Aft K σ F0 H0 fm0 F H fm → VsRel K F H σ fm vs xs → VsNew H0 vs xs → resAll vs fm = some (ws, fm') →
    ∃ F', Aft K σ F0 H0 fm0 F' H fm' ∧ Same F F' ∧ Keeps fm fm' ∧ (∀ a o, F' a = some o → F a = some o ∨ Live σ fm a) ∧ (∀ a, Live σ fm' a → Live σ fm a) ∧ VsRel K F' H σ fm' ws xs ∧ VsNew H0 ws xs ∧ ∀ j, SV.bor j ∉ ws
  | _, _, _, F, fm, fm', A, .nil, _, h => by
    cases h
    exact ⟨F, A, Same.refl _, Keeps.refl _, fun _ _ h => .inl h, fun _ h => h, .nil, .nil, by simp⟩
  | _, ws, _, F, fm, fm', A, .cons (v := v) (x := x) (vs := vs) (xs := xs) hv hr hd, .cons hn hnr, h => by
    simp only [resAll] at h
    split at h
    · rename_i w fm1 e1
      split at h
      · rename_i ws' fm2 e2
        cases h
        cases v with
        | bor j =>
          simp only [res1] at e1
          split at e1
          · rename_i d fm3 e3
            cases e1
            obtain ⟨F1, E1, Ea, s1, R1, D1, k1, hnew⟩ := frz_ok A.ext A.rel hv hn e3
            have hnew' : ∀ a o, F1 a = some o → F a = some o ∨ Live σ fm a := fun a o q => by
              rcases hnew a o q with z | z | ⟨_, c, ec⟩
              · exact .inl z
              · exact .inr z
              · cases ec
            have hlv : ∀ a, Live σ fm1 a → Live σ fm a := fun a q => by
              rcases Ea.live a q with z | z
              · exact z
              · obtain ⟨i, c, h1, h2⟩ := q
                obtain ⟨p, h3, _, h4⟩ := R1.own i c h1
                rw [h2] at h3; cases h3
                obtain ⟨o, ho⟩ := h4.some'
                rw [ho] at z; cases z
            obtain ⟨F2, A2, s2, k2, n2, l2, V2, N2, b2⟩ := resAll_ok ⟨E1, A.kp.trans k1, R1⟩ (VsRel.frz s1 k1 hnew' hlv hr) hnr e2
            refine ⟨F2, A2, s1.trans s2, k1.trans k2, fun a o q => ?_, fun a q => hlv a (l2 a q), .cons (dp_mono s2 D1) V2 (fun c ec => by cases ec), .cons VNew.dat N2, fun j => ?_⟩
            · rcases n2 a o q with z | z
              · exact hnew' a o z
              · exact .inr (hlv a z)
            · simp only [List.mem_cons, not_or]
              exact ⟨(fun z => by cases z), b2 j⟩
          · cases e1
        | dat d =>
          cases e1
          obtain ⟨F2, A2, s2, k2, n2, l2, V2, N2, b2⟩ := resAll_ok A hr hnr e2
          refine ⟨F2, A2, s2, k2, n2, l2, .cons (dp_mono s2 hv) V2 fun c ec => (by cases ec), .cons VNew.dat N2, fun j => ?_⟩
          simp only [List.mem_cons, not_or]
          exact ⟨(fun z => by cases z), b2 j⟩
        | fre c =>
          cases e1
          obtain ⟨F2, A2, s2, k2, n2, l2, V2, N2, b2⟩ := resAll_ok A hr hnr e2
          have hv2 : VRel K F2 H σ fm' (.fre c) x := by
            cases VsRel.frz (vs := [.fre c]) (xs := [x]) s2 k2 n2 l2 (.cons hv .nil fun c ec j c' ej => by simp at ej) with
            | cons h _ _ => exact h
          refine ⟨F2, A2, s2, k2, n2, l2, .cons hv2 V2 fun c1 ec j c' ej => ?_, .cons hn N2, fun j => ?_⟩
          · -- the new ones of ws' stood so in vs
            have : ∀ {vs ws : List SV} {fm fm' : Fm}, resAll vs fm = some (ws, fm') → ∀ (j : Nat) (c : Cell), ws[j]? = some (.fre c) → vs[j]? = some (.fre c) := by
              intro vs
              induction vs with
              | nil => intro ws fm fm' h j c e; cases h; simp at e
              | cons v vs ih =>
                intro ws fm fm' h j c e
                simp only [resAll] at h
                split at h
                · rename_i w fm1 e1
                  split at h
                  · rename_i ws' fm2 e2
                    cases h
                    cases j with
                    | zero =>
                      simp at e
                      subst e
                      cases v with
                      | bor k => simp only [res1] at e1; split at e1 <;> cases e1
                      | dat d => cases e1
                      | fre c' => cases e1; rfl
                    | succ j => simpa using ih e2 j c (by simpa using e)
                  · cases h
                · cases h
            exact hd c rfl j c' (this e2 j c' ej)
          · simp only [List.mem_cons, not_or]
            exact ⟨(fun z => by cases z), b2 j⟩
      · cases h
    · cases h
theorem sto_ok2 {σ0 : L2.St} {F0 H0 : Hp} {fm0 : Fm} {v : SV} (hi : i ∉ ro) (A : AftS K ro σ0 F0 H0 fm0 σ F H fm) (V : VRel K F H σ fm v x) (N : VNew H0 v x) (hb : ∀ j, v ≠ .bor j) (h : sto i v fm = some fm') :
    AftS K ro σ0 F0 H0 fm0 (σ.set i (some x)) F H fm' := by
  have pin : ∀ j ∈ ro, (σ.set i (some x))[j]? = σ0[j]? := fun j hj => (List.getElem?_set_ne fun e => hi (by rw [e]; exact hj)).trans (A.pin j hj)
  cases v with
  | dat d =>
    cases h
    exact ⟨⟨A.ext.same, A.ext.keep, A.ext.new, fun a q => A.ext.live a (live_setDat q), A.ext.grow⟩, A.rel.setDat V, pin⟩
  | fre c =>
    cases h
    obtain ⟨p, rfl, hf, hc, hn⟩ := V
    refine ⟨⟨A.ext.same, A.ext.keep, A.ext.new, fun a q => ?_, A.ext.grow⟩, A.rel.setOwn hf hc hn, pin⟩
    rcases live_setOwn q with q | rfl
    · exact A.ext.live a q
    · exact .inr (N _ rfl)
  | bor j => exact absurd rfl (hb j)
def stoAll : List Nat → List SV → Fm → Option Fm
  | [], [], fm => some fm
  | i :: is, v :: vs, fm => match sto i v fm with
    | some fm1 => stoAll is vs fm1
    | none => none
  | _, _, _ => none
def setAll (σ : L2.St) : List Nat → List V → L2.St
  | i :: is, x :: xs => setAll (σ.set i (some x)) is xs
  | _, _ => σ
theorem val_sto {v w : SV} {y : V} (V : VRel K F H σ fm v x) (h : sto i v fm = some fm') (hb : ∀ j, v ≠ .bor j) (hw : ∀ j, w ≠ .bor j) (W : VRel K F H σ fm w y) (hd : ∀ c, v = .fre c → ∀ c', w = .fre c' → y ≠ x) : VRel K F H (σ.set i (some x)) fm' w y := by
  cases w with
  | bor j => exact absurd rfl (hw j)
  | dat d => exact W
  | fre c =>
    obtain ⟨p, rfl, hf, hc, hn⟩ := W
    refine ⟨p, rfl, hf, hc, fun z => ?_⟩
    cases v with
    | dat d => cases h; exact hn (live_setDat z)
    | bor j => exact absurd rfl (hb j)
    | fre c' =>
      cases h
      obtain ⟨p', rfl, _⟩ := V
      rcases live_setOwn z with z | z
      · exact hn z
      · exact hd _ rfl _ rfl (by rw [z])
theorem vals_sto {v : SV} (hV : VRel K F H σ fm v x) (h : sto i v fm = some fm') (hb : ∀ j, v ≠ .bor j) : ∀ {ws : List SV} {ys : List V}, (∀ j, SV.bor j ∉ ws) → VsRel K F H σ fm ws ys → (∀ c, v = .fre c → ∀ (j : Nat) (c' : Cell), ws[j]? = some (.fre c') → ys[j]? ≠ some x) → VsRel K F H (σ.set i (some x)) fm' ws ys
  | _, _, _, .nil, _ => .nil
  | _, _, hw, .cons W r d, hd => by
    refine .cons (val_sto hV h hb (fun j e => hw j (by rw [e]; exact List.mem_cons_self)) W fun c ec c' ec' ey => ?_) (vals_sto hV h hb (fun j z => hw j (List.mem_cons_of_mem _ z)) r fun c ec j c' ej => hd c ec (j + 1) c' (by simpa using ej)) d
    exact hd c ec 0 c' (by rw [ec']; rfl) (by rw [ey]; rfl)
theorem stoAll_ok {σ0 : L2.St} {F0 H0 : Hp} {fm0 : Fm} : ∀ {is : List Nat} {vs : List SV} {xs : List V} {σ : L2.St} {fm fm' : Fm}, (∀ i ∈ is, i ∉ ro) → AftS K ro σ0 F0 H0 fm0 σ F H fm → VsRel K F H σ fm vs xs → VsNew H0 vs xs → (∀ j, SV.bor j ∉ vs) → stoAll is vs fm = some fm' →
    AftS K ro σ0 F0 H0 fm0 (setAll σ is xs) F H fm' ∧ is.length = xs.length
  | [], _, _, σ, fm, fm', hi, A, .nil, _, _, h => by cases h; exact ⟨A, rfl⟩
  | [], _, _, σ, fm, fm', hi, A, .cons _ _ _, _, _, h => by cases h
  | i :: is, _, _, σ, fm, fm', hi, A, .nil, _, _, h => by cases h
  | i :: is, _, _, σ, fm, fm', hi, A, .cons (v := v) hv hr hd, .cons hn hnr, hb, h => by
    simp only [stoAll] at h
    split at h
    · rename_i fm1 e1
      have hbv : ∀ j, v ≠ .bor j := fun j e => hb j (by rw [e]; exact List.mem_cons_self)
      have hbr : ∀ j, SV.bor j ∉ _ := fun j z => hb j (List.mem_cons_of_mem _ z)
      have A1 := sto_ok2 (hi i List.mem_cons_self) A hv hn hbv e1
      obtain ⟨A2, hl⟩ := stoAll_ok (fun j hj => hi j (List.mem_cons_of_mem _ hj)) A1 (vals_sto hv e1 hbv hbr hr hd) hnr hbr h
      exact ⟨A2, by simp [hl]⟩
    · cases h
end

section
variable {X : Cx} {e a b c tg : Expr} {es : List Expr} {pos p1 p2 : Pos} {st : Stmt} {sts : List Stmt} {ro : List Nat}
def mPar (is : List Nat) (m : MA) : MS := fun fm => match m fm with
  | some (vs, fm1) => match resAll vs fm1 with
    | some (ws, fm2) => match stoAll is ws fm2 with
      | some fm3 => some (.nx, fm3)
      | none => none
    | none => none
  | none => none
theorem tS_par {K : PySem.W.Frag} {is : List Nat} {m : MA} (hro : ∀ i ∈ is, i ∉ ro) {D : Ends} {σ : L2.St} {H : Hp} (h : tS K ro (mPar is m) D σ H) : tA K m σ H fun xs H1 => is.length = xs.length ∧ D.nx (setAll σ is xs) H1 := by
  obtain ⟨F, fm, fl, fm', R, em, q⟩ := h
  unfold mPar at em
  split at em
  · rename_i vs fm1 e1
    split at em
    · rename_i ws fm2 e2
      split at em
      · rename_i fm3 e3
        cases em
        refine ⟨F, fm, vs, fm1, R, e1, fun xs F1 H1 A1 V1 N1 => ?_⟩
        obtain ⟨F2, A2, s2, k2, n2, l2, V2, N2, b2⟩ := resAll_ok A1 V1 N1 e2
        obtain ⟨A3, hl⟩ := stoAll_ok hro A2.s V2 N2 b2 e3
        exact ⟨hl, q _ F2 H1 A3⟩
      · cases em
    · cases em
  · cases em
theorem ss_par2 {i j : Nat} {x y : Str} {m : MA} {px py pt : Pos} {kt k2 pt2} (hc : X.calm = true) (hN : X.N.Nodup) (hi : X.N[i]? = some x) (hj : X.N[j]? = some y) (hij : i ≠ j)
    (hx : X.env.scope.names.lookup x = some .local) (hy : X.env.scope.names.lookup y = some .local) (hro : ∀ k ∈ [i, j], k ∉ ro) (ha : SA X [a, b] m)
    (hw : swappedStores [.Tuple [.Name x px, .Name y py] kt pt] (.Tuple [a, b] k2 pt2) X.env = pure (some [x, y]))
    (hs : swapsWithSole [.Tuple [.Name x px, .Name y py] kt pt] (.Tuple [a, b] k2 pt2) pos.line X.env = pure false) :
    SS X ro (.Assign [.Tuple [.Name x px, .Name y py] kt pt] (.Tuple [a, b] k2 pt2) pos) (mPar [i, j] m) :=
  ps_le (ps_par hc hN hi hj hij hx hy ha hw hs) fun D σ H h => by
    obtain ⟨F, fm, vs, fm', R, em, q⟩ := tS_par hro h
    refine ⟨F, fm, vs, fm', R, em, fun xs F' H' A V N => ?_⟩
    obtain ⟨hl, hq⟩ := q xs F' H' A V N
    match xs, hl with
    | [v, w], _ => exact ⟨v, w, rfl, hq⟩
theorem ss_par3 {i j l : Nat} {x y z : Str} {m : MA} {px py pz pt : Pos} {kt k2 pt2} (hc : X.calm = true) (hN : X.N.Nodup) (hi : X.N[i]? = some x) (hj : X.N[j]? = some y) (hl : X.N[l]? = some z) (hij : i ≠ j) (hil : i ≠ l) (hjl : j ≠ l)
    (hx : X.env.scope.names.lookup x = some .local) (hy : X.env.scope.names.lookup y = some .local) (hz : X.env.scope.names.lookup z = some .local) (hro : ∀ k ∈ [i, j, l], k ∉ ro) (ha : SA X [a, b, c] m)
    (hw : swappedStores [.Tuple [.Name x px, .Name y py, .Name z pz] kt pt] (.Tuple [a, b, c] k2 pt2) X.env = pure (some [x, y, z]))
    (hs : swapsWithSole [.Tuple [.Name x px, .Name y py, .Name z pz] kt pt] (.Tuple [a, b, c] k2 pt2) pos.line X.env = pure false) :
    SS X ro (.Assign [.Tuple [.Name x px, .Name y py, .Name z pz] kt pt] (.Tuple [a, b, c] k2 pt2) pos) (mPar [i, j, l] m) :=
  ps_le (ps_par3 hc hN hi hj hl hij hil hjl hx hy hz ha hw hs) fun D σ H h => by
    obtain ⟨F, fm, vs, fm', R, em, q⟩ := tS_par hro h
    refine ⟨F, fm, vs, fm', R, em, fun xs F' H' A V N => ?_⟩
    obtain ⟨hl, hq⟩ := q xs F' H' A V N
    match xs, hl with
    | [u, v, w], _ => exact ⟨u, v, w, rfl, hq⟩
def mExpr (m : ME) : MS := fun fm => match m fm with
  | some (_, fm1) => some (.nx, fm1)
  | none => none
theorem ss_expr {m : ME} (he : SE X e m) (hs : swapsWith e none pos.line X.env = pure false) : SS X ro (.Expr e pos) (mExpr m) :=
  ps_le (ps_expr he hs) fun D σ H ⟨F, fm, fl, fm', R, em, q⟩ => by
    unfold mExpr at em
    split at em
    · rename_i v fm1 e1
      cases em
      exact ⟨F, fm, v, _, R, e1, fun x F1 H1 A1 V1 N1 => q σ F1 H1 A1.s⟩
    · cases em
def mRet (m : ME) : MS := fun fm => match m fm with
  | some (v, fm1) => some (.rt v, fm1)
  | none => none
theorem ss_ret {m : ME} (he : SE X e m) : SS X ro (.Return (some e) pos) (mRet m) :=
  ps_le (ps_ret he) fun D σ H ⟨F, fm, fl, fm', R, em, q⟩ => by
    unfold mRet at em
    split at em
    · rename_i v fm1 e1
      cases em
      exact ⟨F, fm, v, _, R, e1, fun x F1 H1 A1 V1 N1 => q σ F1 H1 A1.s x V1 N1⟩
    · cases em
def mRetN : MS := fun fm => some (.rt (.dat .none), fm)
theorem ss_retN : SS X ro (.Return none pos) mRetN := ps_le ps_retN fun D σ H ⟨F, fm, fl, fm', R, em, q⟩ => by
  cases em
  exact q σ F H (AftS.refl R) .non .non VNew.dat
def mNext : MS := fun fm => some (.nx, fm)
theorem ss_pass : SS X ro (.Pass pos) mNext := ps_le ps_pass fun D σ H ⟨F, fm, fl, fm', R, em, q⟩ => by
  cases em; exact q σ F H (AftS.refl R)
def mBreak : MS := fun fm => some (.bk, fm)
theorem ss_break : SS X ro (.Break pos) mBreak := ps_le ps_break fun D σ H ⟨F, fm, fl, fm', R, em, q⟩ => by
  cases em; exact q σ F H (AftS.refl R)
def mCont : MS := fun fm => some (.ct, fm)
theorem ss_cont : SS X ro (.Continue pos) mCont := ps_le ps_continue fun D σ H ⟨F, fm, fl, fm', R, em, q⟩ => by
  cases em; exact q σ F H (AftS.refl R)
theorem sss_nil : SSs X ro [] mNext := pss_le pss_nil fun D σ H ⟨F, fm, fl, fm', R, em, q⟩ => by
  cases em; exact q σ F H (AftS.refl R)
theorem sss_one {m : MS} (h : SS X ro st m) : SSs X ro [st] m := pss_one h
def mSeq (m n : MS) : MS := fun fm => match m fm with
  | some (.nx, fm1) => n fm1
  | r => r
/-- what comes behind a state -/
theorem tS_go {K : PySem.W.Frag} {n : MS} {D : Ends} {σ σ1 : L2.St} {F H F1 H1 : Hp} {fm fm1 fm' : Fm} {fl : Fl} (A : AftS K ro σ F H fm σ1 F1 H1 fm1) (em : n fm1 = some (fl, fm')) (q : ∀ σ' F' H', AftS K ro σ F H fm σ' F' H' fm' → Out K D H F' H' σ' fm' fl) : tS K ro n D σ1 H1 := by
  refine ⟨F1, fm1, fl, fm', A.rel, em, fun σ' F' H' A' => ?_⟩
  have z := q σ' F' H' (A.trans A')
  cases fl with
  | nx => exact z
  | bk => exact z
  | ct => exact z
  | rt v => exact fun x V N => z x V (N.back A.ext)
theorem sss_cons {m n : MS} (h1 : SS X ro st m) (h2 : SSs X ro sts n) : SSs X ro (st :: sts) (mSeq m n) :=
  pss_le (pss_cons h1 h2) fun D σ H ⟨F, fm, fl, fm', R, em, q⟩ => by
    unfold mSeq at em
    split at em
    · rename_i fm1 e1
      exact ⟨F, fm, .nx, fm1, R, e1, fun σ1 F1 H1 A1 => tS_go A1 em q⟩
    · rename_i r hr
      refine ⟨F, fm, fl, fm', R, em, fun σ' F' H' A => ?_⟩
      have z := q σ' F' H' A
      cases fl with
      | nx => exact absurd em (hr fm')
      | bk => exact z
      | ct => exact z
      | rt v => exact z
def mIf (c : MT) (m n : MS) : MS := fun fm => match c fm with
  | some (true, fm1) => m fm1
  | some (false, fm1) => n fm1
  | none => none
theorem ss_if {mc : MT} {m n : MS} {as bs : List Stmt} (hc : ST X c mc) (ha : SSs X ro as m) (hb : SSs X ro bs n) : SS X ro (.If c as bs pos) (mIf mc m n) :=
  ps_le (ps_if hc ha hb) fun D σ H ⟨F, fm, fl, fm', R, em, q⟩ => by
    unfold mIf at em
    split at em
    · rename_i fm1 e1
      refine ⟨F, fm, true, fm1, R, e1, fun F1 H1 A1 => iteT (tS_go A1.s em q)⟩
    · rename_i fm1 e1
      refine ⟨F, fm, false, fm1, R, e1, fun F1 H1 A1 => iteF (tS_go A1.s em q)⟩
    · cases em
end
end Rf

namespace Rf
open PySem L2

/-! ### walks -/
section
variable {K : PySem.W.Frag} {F F' F1 H H' H1 : Hp} {σ σ' σ2 : L2.St} {fm fm' fm1 fm2 : Fm} {x : V}
/-- new, frozen objects -/
structure Grow (F H F' H' : Hp) : Prop where
  same : Same F F'
  keep : Same H H'
  sub : Same F' H'
  new : ∀ a o, F' a = some o → F a = some o ∨ H a = none
theorem Grow.refl (s : Same F H) : Grow F H F H := ⟨Same.refl _, Same.refl _, s, fun _ _ h => .inl h⟩
theorem Grow.one {p : Addr} {o : HO} (s : Same F H) (hp : H p = none) : Grow F H (upd F p o) (upd H p o) :=
  ⟨Same.upd' (s.free hp), Same.upd' hp, fun b u e => by
    by_cases z : b = p
    · subst z; rw [upd_same] at e ⊢; exact e
    · rw [upd_ne z] at e ⊢; exact s b u e, fun b u e => by
    by_cases z : b = p
    · subst z; exact .inr hp
    · rw [upd_ne z] at e; exact .inl e⟩
theorem Grow.rel (g : Grow F H F' H') (R : Rel K F H σ fm) : Rel K F' H' σ fm :=
  ⟨g.sub, R.len, fun i d h => by
    obtain ⟨v, h1, h2⟩ := R.dat i d h
    exact ⟨v, h1, dp_mono g.same h2⟩, fun i c h => by
    obtain ⟨p, h1, h2, h3⟩ := R.own i c h
    obtain ⟨o, ho⟩ := h3.some'
    refine ⟨p, h1, ?_, h3.mono g.same fun u h => g.keep p u h⟩
    cases q : F' p with
    | none => rfl
    | some u =>
      rcases g.new p u q with z | z
      · rw [h2] at z; cases z
      · rw [ho] at z; (cases z), R.apart⟩
theorem Grow.aft (g : Grow F H F' H') (R : Rel K F H σ fm) : Aft K σ F H fm F' H' fm :=
  ⟨⟨g.same, fun a o _ h => g.keep a o h, fun a o h => (g.new a o h).elim .inl fun z => .inr (.inl z), fun _ h => .inl h, fun a h => g.keep.free h⟩, Keeps.refl _, g.rel R⟩
structure ItOk (Rl : RLT) (F : Hp) (J : It) (ds : List PyData) : Prop where
  go : ∀ i H, Same F H → i < ds.length → J.go i H
  stop : ∀ H, Same F H → J.stop ds.length H
  yld : ∀ (i : Nat) (d : PyData) (Fc H : Hp) (x : V) (H' : Hp), ds[i]? = some d → Same F Fc → Same Fc H → J.yld i H x H' → ∃ F2, Grow Fc H F2 H' ∧ Rl F2 x d
theorem dpAll_get' : ∀ {vs : List V} {ds : List PyData} {i : Nat} {d : PyData}, DqAll K F vs ds → ds[i]? = some d → ∃ v, vs[i]? = some v ∧ Dq K F v d := dpAll_get
theorem get_lt {α : Type} {l : List α} {i : Nat} (h : i < l.length) : ∃ a, l[i]? = some a := ⟨l[i], by simp [h]⟩
theorem itok_list {a : Addr} {vs : List V} {ds : List PyData} (hq : SqL K F a vs) (r : DqAll K F vs ds) : ItOk (Dq K) F (Itl K a) ds where
  go := fun i H s h => by
    obtain ⟨x, hx⟩ := get_lt (l := vs) (i := i) (by rw [dpAll_len r]; exact h)
    exact ⟨vs, x, s.seq hq, hx⟩
  stop := fun H s => ⟨vs, s.seq hq, by rw [dpAll_len r]; exact Nat.le_refl _⟩
  yld := fun i d Fc H x H' hd s1 s2 y => by
    obtain ⟨rfl, y⟩ := y
    obtain ⟨v, h1, h2⟩ := dpAll_get r hd
    have e := y vs ((s1.trans s2).seq hq)
    rw [h1] at e; cases e
    exact ⟨Fc, Grow.refl s2, dp_mono s1 h2⟩
theorem itok_tup {a : Addr} {vs : List V} {ds : List PyData} (hq : SqT K F a vs) (r : DqAll K F vs ds) : ItOk (Dq K) F (Itt K a) ds where
  go := fun i H s h => by
    obtain ⟨x, hx⟩ := get_lt (l := vs) (i := i) (by rw [dpAll_len r]; exact h)
    exact ⟨vs, x, sqT_mono s hq, hx⟩
  stop := fun H s => ⟨vs, sqT_mono s hq, by rw [dpAll_len r]; exact Nat.le_refl _⟩
  yld := fun i d Fc H x H' hd s1 s2 y => by
    obtain ⟨rfl, y⟩ := y
    obtain ⟨v, h1, h2⟩ := dpAll_get r hd
    have e := y vs (sqT_mono (s1.trans s2) hq)
    rw [h1] at e; cases e
    exact ⟨Fc, Grow.refl s2, dp_mono s1 h2⟩
/-- lo, lo + 1, .. -/
def intsFrom (lo : Int) (n : Nat) : List PyData := (List.range n).map fun k => .int (lo + (k : Nat))
theorem itok_rng {lo : Int} {n : Nat} : ItOk (Dq K) F (Itr lo n) (intsFrom lo n) where
  go := fun i H s h => by
    show i < n
    simpa [intsFrom] using h
  stop := fun H s => by show n ≤ _; simp [intsFrom]
  yld := fun i d Fc H x H' hd s1 s2 y => by
    obtain ⟨rfl, rfl⟩ := y
    refine ⟨Fc, Grow.refl s2, ?_⟩
    simp only [intsFrom, List.getElem?_map, Option.map_eq_some_iff] at hd
    obtain ⟨k, hk, rfl⟩ := hd
    have e : k = i := by
      rw [List.getElem?_range (by
        have := List.getElem?_eq_some_iff.mp hk
        simpa using this.1)] at hk
      exact (Option.some.inj hk).symm
    subst e
    exact .int _
/-- (0, d0), (1, d1), .. -/
def enum (ds : List PyData) : List PyData := (List.range ds.length).map fun k => .tuple [.int (k : Nat), ds.getD k .none]
theorem enum_get {ds : List PyData} {i : Nat} {d : PyData} (h : (enum ds)[i]? = some d) : ∃ e, ds[i]? = some e ∧ d = .tuple [.int (i : Nat), e] := by
  simp only [enum, List.getElem?_map, Option.map_eq_some_iff] at h
  obtain ⟨k, hk, rfl⟩ := h
  have hlt : i < ds.length := by
    have := List.getElem?_eq_some_iff.mp hk
    simpa using this.1
  rw [List.getElem?_range hlt] at hk
  cases hk
  refine ⟨ds[i], by simp [hlt], ?_⟩
  rw [List.getD_eq_getElem?_getD]
  simp [hlt]
theorem enum_len {ds : List PyData} : (enum ds).length = ds.length := by simp [enum]
theorem itok_enum {a : Addr} {vs : List V} {ds : List PyData} (hq : SqL K F a vs) (r : DqAll K F vs ds) : ItOk (Dw K) F (Ite K a) (enum ds) where
  go := fun i H s h => by
    rw [enum_len] at h
    obtain ⟨x, hx⟩ := get_lt (l := vs) (i := i) (by rw [dpAll_len r]; exact h)
    exact ⟨vs, x, s.seq hq, hx⟩
  stop := fun H s => ⟨vs, s.seq hq, by rw [enum_len, dpAll_len r]; exact Nat.le_refl _⟩
  yld := fun i d Fc H x H' hd s1 s2 y => by
    obtain ⟨T, y, rfl, hT, rfl, hy⟩ := y
    obtain ⟨e, he, rfl⟩ := enum_get hd
    obtain ⟨v, h1, h2⟩ := dpAll_get r he
    have e := hy vs ((s1.trans s2).seq hq)
    rw [h1] at e; cases e
    have g : Grow Fc H _ _ := Grow.one (o := .tup [.int (i : Nat), y]) s2 hT
    exact ⟨_, g, .inr ⟨_, _, _, rfl, rfl, SqT.of upd_same, .cons (.int _) (.cons (dp_mono (s1.trans g.same) h2) .nil)⟩⟩
def zip2 : List PyData → List PyData → List PyData
  | a :: as, b :: bs => .tuple [a, b] :: zip2 as bs
  | _, _ => []
theorem zip2_get : ∀ {as bs : List PyData} {i : Nat} {d : PyData}, (zip2 as bs)[i]? = some d → ∃ a b, as[i]? = some a ∧ bs[i]? = some b ∧ d = .tuple [a, b]
  | a :: as, b :: bs, 0, d, h => ⟨a, b, rfl, rfl, by simpa [zip2] using h.symm⟩
  | a :: as, b :: bs, i + 1, d, h => by
    obtain ⟨x, y, h1, h2, h3⟩ := zip2_get (as := as) (bs := bs) (i := i) (d := d) (by simpa [zip2] using h)
    exact ⟨x, y, by simpa using h1, by simpa using h2, h3⟩
  | [], _, _, _, h => by simp [zip2] at h
  | _ :: _, [], _, _, h => by simp [zip2] at h
theorem zip2_len : ∀ {as bs : List PyData}, (zip2 as bs).length = min as.length bs.length
  | a :: as, b :: bs => by simp [zip2, zip2_len]
  | [], _ => by simp [zip2]
  | _ :: _, [] => by simp [zip2]
theorem itok_zip {a b : Addr} {vs us : List V} {ds es : List PyData} (hq : SqL K F a vs) (hp : SqL K F b us) (r : DqAll K F vs ds) (t : DqAll K F us es) : ItOk (Dw K) F (Itz K a b) (zip2 ds es) where
  go := fun i H s h => by
    rw [zip2_len] at h
    obtain ⟨x, hx⟩ := get_lt (l := vs) (i := i) (by rw [dpAll_len r]; omega)
    obtain ⟨y, hy⟩ := get_lt (l := us) (i := i) (by rw [dpAll_len t]; omega)
    exact ⟨vs, us, x, y, s.seq hq, s.seq hp, hx, hy⟩
  stop := fun H s => ⟨vs, us, s.seq hq, s.seq hp, by rw [zip2_len, dpAll_len r, dpAll_len t]; omega⟩
  yld := fun i d Fc H x H' hd s1 s2 y => by
    obtain ⟨T, y, z, rfl, hT, rfl, hy, hz⟩ := y
    obtain ⟨e, e2, he, he2, rfl⟩ := zip2_get hd
    obtain ⟨v, h1, h2⟩ := dpAll_get r he
    obtain ⟨u, h3, h4⟩ := dpAll_get t he2
    have e := hy vs ((s1.trans s2).seq hq)
    rw [h1] at e; cases e
    have e := hz us ((s1.trans s2).seq hp)
    rw [h3] at e; cases e
    have g : Grow Fc H _ _ := Grow.one (o := .tup [y, z]) s2 hT
    exact ⟨_, g, .inr ⟨_, _, _, rfl, rfl, SqT.of upd_same, .cons (dp_mono (s1.trans g.same) h2) (.cons (dp_mono (s1.trans g.same) h4) .nil)⟩⟩
theorem itok_zipT {a b : Addr} {vs us : List V} {ds es : List PyData} (hq : SqT K F a vs) (hp : SqT K F b us) (r : DqAll K F vs ds) (t : DqAll K F us es) : ItOk (Dw K) F (RZ.ItzT K a b) (zip2 ds es) where
  go := fun i H s h => by
    rw [zip2_len] at h
    obtain ⟨x, hx⟩ := get_lt (l := vs) (i := i) (by rw [dpAll_len r]; omega)
    obtain ⟨y, hy⟩ := get_lt (l := us) (i := i) (by rw [dpAll_len t]; omega)
    exact ⟨vs, us, x, y, sqT_mono s hq, sqT_mono s hp, hx, hy⟩
  stop := fun H s => ⟨vs, us, sqT_mono s hq, sqT_mono s hp, by rw [zip2_len, dpAll_len r, dpAll_len t]; omega⟩
  yld := fun i d Fc H x H' hd s1 s2 y => by
    obtain ⟨T, y, z, rfl, hT, rfl, hy, hz⟩ := y
    obtain ⟨e, e2, he, he2, rfl⟩ := zip2_get hd
    obtain ⟨v, h1, h2⟩ := dpAll_get r he
    obtain ⟨u, h3, h4⟩ := dpAll_get t he2
    have e := hy vs (sqT_mono (s1.trans s2) hq)
    rw [h1] at e; cases e
    have e := hz us (sqT_mono (s1.trans s2) hp)
    rw [h3] at e; cases e
    have g : Grow Fc H _ _ := Grow.one (o := .tup [y, z]) s2 hT
    exact ⟨_, g, .inr ⟨_, _, _, rfl, rfl, SqT.of upd_same, .cons (dp_mono (s1.trans g.same) h2) (.cons (dp_mono (s1.trans g.same) h4) .nil)⟩⟩
end
abbrev MI := Fm → Option (List PyData × Fm)
def tI (K : PySem.W.Frag) (Rl : RLT) (mi : MI) : TI := fun σ H R => ∃ F fm ds fm', Rel K F H σ fm ∧ mi fm = some (ds, fm') ∧ ∀ J F' H', Aft K σ F H fm F' H' fm' → ItOk Rl F' J ds → R J H'
def SI (X : Cx) (Rl : RLT) (tg iter : Expr) (mi : MI) : Prop := PI X tg iter (tI X.K Rl mi)
section
variable {X : Cx} {e a b c tg iter : Expr} {es : List Expr} {pos p1 p2 tpos : Pos} {st : Stmt} {sts body : List Stmt} {ro : List Nat} {elts : List Expr} {kk : Nat}
theorem pi_le {t t' : TI} (h : PI X tg iter t) (k : ∀ σ H Q, t' σ H Q → t σ H Q) : PI X tg iter t' := ⟨fun pins s σ H Q I q => h.run pins s σ H Q I (k σ H Q q)⟩
def iSq (K : PySem.W.Frag) (tl : TE) : TI := fun σ H R => tl σ H fun x H1 => ∃ a, x = .ref a ∧ (((∃ xs, SqL K H1 a xs) ∧ R (Itl K a) H1) ∨ ((∃ xs, SqT K H1 a xs) ∧ R (Itt K a) H1))
theorem pi_sq {l : Expr} {tl : TE} (hl : PE X l tl) : PI X tg l (iSq X.K tl) := by
  refine ⟨fun pins s σ H R I h => ?_⟩
  refine thn (hl.run pins s σ H _ I h) fun v s1 ⟨x, H1, I1, r1, q1⟩ => ?_
  obtain ⟨a, e, ⟨⟨xs, hq⟩, q⟩ | ⟨⟨xs, hq⟩, q⟩⟩ := q1
  · subst e
    cases r1
    obtain ⟨its, rv, p, hz⟩ := I1.list hq
    refine wpAny_pyIter_list p.isList ?_
    refine ⟨s1.heap.objs.size, [s1.heap.objs.size], _, _, H1, rfl, I1.kept (t' := s1.toks) fun b o e => Heap.get?_push_of_some _ e, turn_list a _, ⟨_, Heap.get?_push_size _ rfl, rfl, rfl⟩, fun b hb => ?_, q⟩
    have e : b = s1.heap.objs.size := by simpa using hb
    subst e
    exact I1.fpOk (Nat.le_refl _) (I1.hok.fresh (Nat.le_refl _))
  · subst e
    cases r1
    obtain ⟨its, rv, p, hz⟩ := I1.tuple hq
    refine wpAny_pyIter_tuple (show s1.heap.IsTuple a its.toArray from p) ?_
    refine ⟨s1.heap.objs.size, [s1.heap.objs.size], _, _, H1, rfl, I1.kept (t' := s1.toks) fun b o e => Heap.get?_push_of_some _ e, turn_tuple a _, ⟨_, Heap.get?_push_size _ rfl, rfl, rfl⟩, fun b hb => ?_, q⟩
    have e : b = s1.heap.objs.size := by simpa using hb
    subst e
    exact I1.fpOk (Nat.le_refl _) (I1.hok.fresh (Nat.le_refl _))
/-- a list or a tuple, walked -/
def iSeq (m : ME) : MI := fun fm => match m fm with
  | some (v, fm1) => match frz v fm1 with
    | some (.list ds, fm2) => some (ds, fm2)
    | some (.tuple ds, fm2) => some (ds, fm2)
    | _ => none
  | none => none
theorem Aft.frz {K : PySem.W.Frag} {F F1 H H1 : Hp} {σ : L2.St} {fm fm1 fm2 : Fm} {v : SV} {x : V} {d : PyData} (A : Aft K σ F H fm F1 H1 fm1) (V : VRel K F1 H1 σ fm1 v x) (N : VNew H v x) (h : frz v fm1 = some (d, fm2)) :
    ∃ F2, Aft K σ F H fm F2 H1 fm2 ∧ Dq K F2 x d := by
  obtain ⟨F2, E2, _, _, R2, D2, k2, _⟩ := frz_ok A.ext A.rel V N h
  exact ⟨F2, ⟨E2, A.kp.trans k2, R2⟩, D2⟩
theorem si_seq {m : ME} (h : SE X e m) : SI X (Dq X.K) tg e (iSeq m) := pi_le (pi_sq h) fun σ H R ⟨F, fm, ds, fm', rel, em, q⟩ => by
  unfold iSeq at em
  split at em
  · rename_i v fm1 e1
    refine ⟨F, fm, v, fm1, rel, e1, fun x F1 H1 A V N => ?_⟩
    split at em
    · rename_i ds' fm2 e2
      cases em
      obtain ⟨F2, A2, D2⟩ := A.frz V N e2
      cases D2 with
      | lst hq r => exact ⟨_, rfl, .inl ⟨⟨_, A2.rel.sub.seq hq⟩, q _ F2 H1 A2 (itok_list hq r)⟩⟩
    · rename_i ds' fm2 e2
      cases em
      obtain ⟨F2, A2, D2⟩ := A.frz V N e2
      cases D2 with
      | tup hq r => exact ⟨_, rfl, .inr ⟨⟨_, sqT_mono A2.rel.sub hq.1⟩, q _ F2 H1 A2 (itok_tup hq.1 r)⟩⟩
    · cases em
  · cases em
def iRan (m : MA) : MI := fun fm => match m fm with
  | some ([.dat (.int j)], fm1) => if -(2 ^ 62) ≤ j ∧ j < 2 ^ 62 then some (intsFrom 0 j.toNat, fm1) else none
  | _ => none
theorem vsrel1 {K : PySem.W.Frag} {F H : Hp} {σ : L2.St} {fm : Fm} {v : SV} {xs : List V} (h : VsRel K F H σ fm [v] xs) : ∃ x, xs = [x] ∧ VRel K F H σ fm v x := by
  cases h with
  | cons h r _ => cases r; exact ⟨_, rfl, h⟩
theorem vsrel2 {K : PySem.W.Frag} {F H : Hp} {σ : L2.St} {fm : Fm} {v w : SV} {xs : List V} (h : VsRel K F H σ fm [v, w] xs) : ∃ x y, xs = [x, y] ∧ VRel K F H σ fm v x ∧ VRel K F H σ fm w y := by
  cases h with
  | cons h r _ => obtain ⟨y, rfl, h2⟩ := vsrel1 r; exact ⟨_, y, rfl, h, h2⟩
theorem dpint {K : PySem.W.Frag} {F : Hp} {x : V} {i : Int} (h : Dq K F x (.int i)) : x = .int i := by cases h; rfl
theorem si_ran {m : MA} (hg : Gl X "range") (hm : X.mg "range" = none) (ha : SA X [a] m) (hs : starEach [a] X.env = [(false, eval a X.env)] := by rfl) : SI X (Dq X.K) tg (.Call (.Name "range" p1) [a] [] pos) (iRan m) :=
  pi_le (pi_range1 hg hm ha hs) fun σ H R ⟨F, fm, ds, fm', rel, em, q⟩ => by
    unfold iRan at em
    split at em
    · rename_i j fm1 e1
      split at em
      · rename_i hj
        cases em
        refine ⟨F, fm, _, _, rel, e1, fun xs F1 H1 A V N => ?_⟩
        obtain ⟨x, rfl, V1⟩ := vsrel1 V
        have := dpint V1
        subst this
        exact ⟨j, rfl, hj.1, hj.2, q _ F1 H1 A itok_rng⟩
      · cases em
    · cases em
def iRan2 (m : MA) : MI := fun fm => match m fm with
  | some ([.dat (.int i), .dat (.int j)], fm1) => if (-(2 ^ 62) ≤ i ∧ i < 2 ^ 62) ∧ -(2 ^ 62) ≤ j ∧ j < 2 ^ 62 then some (intsFrom i (j - i).toNat, fm1) else none
  | _ => none
theorem si_ran2 {m : MA} (hg : Gl X "range") (hm : X.mg "range" = none) (ha : SA X [a, b] m) (hs : starEach [a, b] X.env = [(false, eval a X.env), (false, eval b X.env)] := by rfl) (hs2 : starEach [b] X.env = [(false, eval b X.env)] := by rfl) : SI X (Dq X.K) tg (.Call (.Name "range" p1) [a, b] [] pos) (iRan2 m) :=
  pi_le (pi_range2 hg hm ha hs hs2) fun σ H R ⟨F, fm, ds, fm', rel, em, q⟩ => by
    unfold iRan2 at em
    split at em
    · rename_i i j fm1 e1
      split at em
      · rename_i hj
        cases em
        refine ⟨F, fm, _, _, rel, e1, fun xs F1 H1 A V N => ?_⟩
        obtain ⟨x, y, rfl, V1, V2⟩ := vsrel2 V
        have := dpint V1
        subst this
        have := dpint V2
        subst this
        exact ⟨i, j, rfl, ⟨hj.1.1, hj.1.2, hj.2.1, hj.2.2⟩, q _ F1 H1 A itok_rng⟩
      · cases em
    · cases em
/-- enumerate of a list -/
def iEnm (m : MA) : MI := fun fm => match m fm with
  | some ([v], fm1) => match frz v fm1 with
    | some (.list ds, fm2) => some (enum ds, fm2)
    | _ => none
  | _ => none
theorem vsnew1 {H : Hp} {v : SV} {x : V} (h : VsNew H [v] [x]) : VNew H v x := by cases h with | cons h _ => exact h
theorem si_enm {m : MA} (hg : Gl X "enumerate") (hm : X.mg "enumerate" = none) (ha : SA X [e] m) (hs : starEach [e] X.env = [(false, eval e X.env)] := by rfl) : SI X (Dw X.K) (.Tuple elts kk tpos) (.Call (.Name "enumerate" p1) [e] [] pos) (iEnm m) :=
  pi_le (pi_enum hg hm ha hs) fun σ H R ⟨F, fm, ds, fm', rel, em, q⟩ => by
    unfold iEnm at em
    split at em
    · rename_i v fm1 e1
      split at em
      · rename_i ds' fm2 e2
        cases em
        refine ⟨F, fm, _, fm1, rel, e1, fun xs F1 H1 A V N => ?_⟩
        obtain ⟨x, rfl, V1⟩ := vsrel1 V
        obtain ⟨F2, A2, D2⟩ := A.frz V1 (vsnew1 N) e2
        cases D2 with
        | lst hq r => exact ⟨_, _, rfl, A2.rel.sub.seq hq, q _ F2 H1 A2 (itok_enum hq r)⟩
      · cases em
    · cases em
/-- zip of two lists, of two tuples -/
def iZp (m : MA) : MI := fun fm => match m fm with
  | some (vs, fm1) => match frzAll vs fm1 with
    | some ([.list ds, .list es], fm2) => some (zip2 ds es, fm2)
    | some ([.tuple ds, .tuple es], fm2) => some (zip2 ds es, fm2)
    | _ => none
  | _ => none
theorem si_zip {m : MA} (hg : Gl X "zip") (hm : X.mg "zip" = none) (ha : SA X [a, b] m) (hs : starEach [a, b] X.env = (false, eval a X.env) :: starEach [b] X.env := by rfl) (hpl : (backTo pos (starEach [b] X.env)).any (·.1) = false := by rfl) : SI X (Dw X.K) (.Tuple elts kk tpos) (.Call (.Name "zip" p1) [a, b] [] pos) (iZp m) :=
  pi_le (RZ.pi_zipA hg hm ha hs hpl) fun σ H R ⟨F, fm, ds, fm', rel, em, q⟩ => by
    unfold iZp at em
    split at em
    · rename_i vs fm1 e1
      refine ⟨F, fm, _, fm1, rel, e1, fun xs F1 H1 A V N => ?_⟩
      split at em
      · rename_i ds' es' fm2 e2
        cases em
        obtain ⟨F2, A2, D2⟩ := aft_frzAll A V N e2
        cases D2 with
        | cons d1 r =>
          cases r with
          | cons d2 r =>
            cases r
            cases d1 with
            | lst hq r1 =>
              cases d2 with
              | lst hp r2 => exact ⟨_, _, _, _, rfl, .inl ⟨A2.rel.sub.seq hq, A2.rel.sub.seq hp, q _ F2 H1 A2 (itok_zip hq hp r1 r2)⟩⟩
      · rename_i ds' es' fm2 e2
        cases em
        obtain ⟨F2, A2, D2⟩ := aft_frzAll A V N e2
        cases D2 with
        | cons d1 r =>
          cases r with
          | cons d2 r =>
            cases r
            cases d1 with
            | tup hq r1 =>
              cases d2 with
              | tup hp r2 => exact ⟨_, _, _, _, rfl, .inr ⟨sqT_mono A2.rel.sub hq.1, sqT_mono A2.rel.sub hp.1, q _ F2 H1 A2 (itok_zipT hq.1 hp.1 r1 r2)⟩⟩
      · cases em
    · cases em

/-! ### for, while -/
def loopM (g : MG) (m : MS) : List PyData → Fm → Option (Fl × Fm)
  | [], fm => some (.nx, fm)
  | d :: ds, fm => match g d fm with
    | none => none
    | some fm1 => match m fm1 with
      | some (.nx, fm2) => loopM g m ds fm2
      | some (.ct, fm2) => loopM g m ds fm2
      | some (.bk, fm2) => some (.nx, fm2)
      | some (.rt v, fm2) => some (.rt v, fm2)
      | none => none
def mFor (mi : MI) (g : MG) (m : MS) : MS := fun fm => match mi fm with
  | some (ds, fm1) => loopM g m ds fm1
  | none => none
theorem ss_for {Rl : RLT} {mi : MI} {g : MG} {m : MS} (hp : PassesOwn (model X.prog X.w) X.A X.env X.xe) (hc : X.calm = true) (hi : SI X Rl tg iter mi) (hg : SG X Rl ro tg g) (hb : SSs X ro body m)
    (hs : ∀ x, foldedSetIterable iter X.env x = pure x := by intro _; rfl) : SS X ro (.For tg iter body [] pos) (mFor mi g m) :=
  ps_le (ps_for hp hc hi hg hb hs) fun D σ H ⟨F, fm, fl, fm', R, em, q⟩ => by
    unfold mFor at em
    split at em
    · rename_i ds fm1 e1
      refine ⟨F, fm, ds, fm1, R, e1, fun J F1 H1 A1 IO => ?_⟩
      refine ⟨fun i n σc Hc => n = ds.length - i ∧ i ≤ ds.length ∧ ∃ Fc fmc, AftS X.K ro σ F H fm σc Fc Hc fmc ∧ Same F1 Fc ∧ loopM g m (ds.drop i) fmc = some (fl, fm'), ⟨ds.length, rfl, Nat.zero_le _, F1, fm1, A1.s, Same.refl _, em⟩, ?_⟩
      rintro i n σc Hc ⟨rfl, hi, Fc, fmc, A, sF, el⟩
      by_cases hlt : i < ds.length
      · refine .inr ⟨IO.go i Hc (sF.trans A.rel.sub) hlt, fun σ' H' => (i + 1 ≤ ds.length ∧ ∃ Fc fmc, AftS X.K ro σ F H fm σ' Fc H' fmc ∧ Same F1 Fc ∧ loopM g m (ds.drop (i + 1)) fmc = some (fl, fm')), fun σ' H' p => ⟨ds.length - (i + 1), by omega, rfl, p.1, p.2⟩, fun x H' y => ?_⟩
        obtain ⟨F2, G, Dx⟩ := IO.yld i ds[i] Fc Hc x H' (by simp [hlt]) sF A.rel.sub y
        have A2 := A.trans (G.aft A.rel).s
        rw [List.drop_eq_getElem_cons hlt] at el
        simp only [loopM] at el
        split at el
        · cases el
        · rename_i fm2 eg
          refine ⟨F2, fmc, ds[i], fm2, A2.rel, Dx, eg, fun σ2 F3 H3 A3 => ?_⟩
          have A3' := A2.trans A3
          have s3 : Same F1 F3 := sF.trans (G.same.trans A3.ext.same)
          split at el
          · rename_i fm3 e3
            exact ⟨F3, fm2, _, fm3, A3.rel, e3, fun σ4 F4 H4 A4 => ⟨hlt, F4, fm3, A3'.trans A4, s3.trans A4.ext.same, el⟩⟩
          · rename_i fm3 e3
            exact ⟨F3, fm2, _, fm3, A3.rel, e3, fun σ4 F4 H4 A4 => ⟨hlt, F4, fm3, A3'.trans A4, s3.trans A4.ext.same, el⟩⟩
          · rename_i fm3 e3
            cases el
            exact ⟨F3, fm2, _, _, A3.rel, e3, fun σ4 F4 H4 A4 => q σ4 F4 H4 (A3'.trans A4)⟩
          · rename_i v fm3 e3
            cases el
            exact ⟨F3, fm2, _, _, A3.rel, e3, fun σ4 F4 H4 A4 x V N => q σ4 F4 H4 (A3'.trans A4) x V (N.back A3'.ext)⟩
          · cases el
      · have e : i = ds.length := by omega
        subst e
        rw [List.drop_length] at el
        cases el
        exact .inl ⟨IO.stop Hc (sF.trans A.rel.sub), q σc Fc Hc A⟩
    · cases em
def whileM (c : MT) (m : MS) : Nat → Fm → Option (Fl × Fm)
  | 0, _ => none
  | n + 1, fm => match c fm with
    | none => none
    | some (false, fm1) => some (.nx, fm1)
    | some (true, fm1) => match m fm1 with
      | some (.nx, fm2) => whileM c m n fm2
      | some (.ct, fm2) => whileM c m n fm2
      | some (.bk, fm2) => some (.nx, fm2)
      | some (.rt v, fm2) => some (.rt v, fm2)
      | none => none
/-- by at most n turns -/
def mWhile (n : Nat) (c : MT) (m : MS) : MS := whileM c m n
theorem ss_while {n : Nat} {mc : MT} {m : MS} (hp : PassesOwn (model X.prog X.w) X.A X.env X.xe) (hc : ST X c mc) (hb : SSs X ro body m) : SS X ro (.While c body [] pos) (mWhile n mc m) :=
  ps_le (ps_while hp hc hb) fun D σ H ⟨F, fm, fl, fm', R, em, q⟩ => by
    refine ⟨fun k σc Hc => ∃ Fc fmc, AftS X.K ro σ F H fm σc Fc Hc fmc ∧ whileM mc m k fmc = some (fl, fm'), ⟨n, F, fm, AftS.refl R, em⟩, ?_⟩
    rintro k σc Hc ⟨Fc, fmc, A, el⟩
    cases k with
    | zero => cases el
    | succ k =>
      simp only [whileM] at el
      split at el
      · cases el
      · rename_i fm1 e1
        cases el
        exact ⟨Fc, fmc, false, _, A.rel, e1, fun F1 H1 A1 => iteF (q σc F1 H1 (A.trans A1.s))⟩
      · rename_i fm1 e1
        refine ⟨Fc, fmc, true, fm1, A.rel, e1, fun F1 H1 A1 => iteT ?_⟩
        have A2 := A.trans A1.s
        refine ⟨fun σ' H' => ∃ Fc fmc, AftS X.K ro σ F H fm σ' Fc H' fmc ∧ whileM mc m k fmc = some (fl, fm'), fun σ' H' p => ⟨k, by omega, p⟩, ?_⟩
        split at el
        · rename_i fm3 e3
          exact ⟨F1, fm1, _, fm3, A2.rel, e3, fun σ4 F4 H4 A4 => ⟨F4, fm3, A2.trans A4, el⟩⟩
        · rename_i fm3 e3
          exact ⟨F1, fm1, _, fm3, A2.rel, e3, fun σ4 F4 H4 A4 => ⟨F4, fm3, A2.trans A4, el⟩⟩
        · rename_i fm3 e3
          cases el
          exact ⟨F1, fm1, _, _, A2.rel, e3, fun σ4 F4 H4 A4 => q σ4 F4 H4 (A2.trans A4)⟩
        · rename_i v fm3 e3
          cases el
          exact ⟨F1, fm1, _, _, A2.rel, e3, fun σ4 F4 H4 A4 x V N => q σ4 F4 H4 (A2.trans A4) x V (N.back A2.ext)⟩
        · cases el
end
end Rf

namespace Rf
open PySem L2

/-! ### calls of defs -/
/-- a def's meaning: its arguments (data, or objects of the caller's that it may change), its value, the arguments behind it -/
abbrev Dm := List S0 → Option (SV × List S0)
abbrev fA (as : List S0) : Fm := as.map some
abbrev sA (xs : List V) : L2.St := xs.map some
def spM (K : PySem.W.Frag) (f : Dm) : Sp := fun xs H Q _ => ∃ F as r outs, Rel K F H (sA xs) (fA as) ∧ f as = some (r, outs) ∧
  ∀ x F' H', Aft K (sA xs) F H (fA as) F' H' (fA outs) → VRel K F' H' (sA xs) (fA outs) r x → VNew H r x → Q x H'
def argOf (v : SV) (fm : Fm) : Option S0 := match v with
  | .dat d => some (.dat d)
  | .fre c => some (.own c)
  | .bor i => match fm[i]? with
    | some (some s) => some s
    | _ => none
def argsOf : List SV → Fm → Option (List S0)
  | [], _ => some []
  | v :: vs, fm => match argOf v fm with
    | some s => match argsOf vs fm with
      | some ss => some (s :: ss)
      | none => none
    | none => none
def bors : List SV → List Nat
  | [] => []
  | .bor i :: vs => i :: bors vs
  | _ :: vs => bors vs
def wback : List SV → List S0 → Fm → Fm
  | .bor i :: vs, o :: os, fm => (wback vs os fm).set i (some o)
  | _ :: vs, _ :: os, fm => wback vs os fm
  | _, _, fm => fm
def mCall (f : Dm) (ma : MA) : ME := fun fm => match ma fm with
  | none => none
  | some (vs, fm1) => match argsOf vs fm1 with
    | none => none
    | some as => if (bors vs).Nodup then (match f as with
      | some (.bor _, _) => none
      | some (r, outs) => some (r, wback vs outs fm1)
      | none => none) else none
section
variable {K : PySem.W.Frag} {F F' F0 F1 H H' H0 H1 : Hp} {σ : L2.St} {fm fm0 fm1 fm' : Fm} {vs : List SV} {xs : List V} {as outs : List S0}
theorem mCall_inv {f : Dm} {ma : MA} {v : SV} (h : mCall f ma fm = some (v, fm')) : ∃ vs fm1 as outs, ma fm = some (vs, fm1) ∧ argsOf vs fm1 = some as ∧ (bors vs).Nodup ∧ f as = some (v, outs) ∧ (∀ j, v ≠ .bor j) ∧ fm' = wback vs outs fm1 := by
  unfold mCall at h
  split at h
  · cases h
  · rename_i vs fm1 e1
    split at h
    · cases h
    · rename_i as e2
      split at h
      · rename_i nd
        split at h
        · cases h
        · rename_i r outs hb e3
          cases h
          exact ⟨vs, fm1, as, outs, e1, e2, nd, e3, fun j z => by subst z; exact hb j rfl, rfl⟩
        · cases h
      · cases h
theorem argsOf_get : ∀ {vs : List SV} {as : List S0} {k : Nat} {s : S0}, argsOf vs fm = some as → as[k]? = some s → ∃ v, vs[k]? = some v ∧ argOf v fm = some s
  | [], _, _, _, h, e => by cases h; simp at e
  | v :: vs, as, k, s, h, e => by
    simp only [argsOf] at h
    split at h
    · rename_i s1 e1
      split at h
      · rename_i ss e2
        cases h
        cases k with
        | zero => simp at e; subst e; exact ⟨v, rfl, e1⟩
        | succ k =>
          obtain ⟨w, h1, h2⟩ := argsOf_get (k := k) e2 (by simpa using e)
          exact ⟨w, by simpa using h1, h2⟩
      · cases h
    · cases h
theorem argsOf_len : ∀ {vs : List SV} {as : List S0}, argsOf vs fm = some as → as.length = vs.length
  | [], _, h => by cases h; rfl
  | v :: vs, as, h => by
    simp only [argsOf] at h
    split at h
    · split at h
      · rename_i ss e2
        cases h
        simp [argsOf_len e2]
      · cases h
    · cases h
theorem VsRel.get : ∀ {vs : List SV} {xs : List V} {k : Nat} {v : SV}, VsRel K F H σ fm vs xs → vs[k]? = some v → ∃ x, xs[k]? = some x ∧ VRel K F H σ fm v x
  | _, _, _, _, .nil, h => by simp at h
  | _, _, 0, _, .cons h _ _, e => by simp at e; subst e; exact ⟨_, rfl, h⟩
  | _, _, k + 1, v, .cons _ r _, e => by
    obtain ⟨x, h1, h2⟩ := VsRel.get (k := k) r (by simpa using e)
    exact ⟨x, by simpa using h1, h2⟩
theorem VsRel.apart : ∀ {vs : List SV} {xs : List V} {j k : Nat} {c c' : Cell} {x : V}, VsRel K F H σ fm vs xs → j < k → vs[j]? = some (.fre c) → vs[k]? = some (.fre c') → xs[j]? = some x → xs[k]? ≠ some x
  | _, _, _, _, _, _, _, .nil, _, h, _, _ => by simp at h
  | _, _, 0, k + 1, c, c', x, .cons h r d, _, e1, e2, e3 => by
    simp at e1 e3; subst e1 e3
    have := d c rfl k c' (by simpa using e2)
    simpa using this
  | _, _, j + 1, k + 1, c, c', x, .cons _ r _, hl, e1, e2, e3 => by
    have := VsRel.apart (j := j) (k := k) r (by omega) (by simpa using e1) (by simpa using e2) (by simpa using e3)
    simpa using this
theorem bors_mem : ∀ {vs : List SV} {k i : Nat}, vs[k]? = some (.bor i) → i ∈ bors vs
  | [], _, _, h => by simp at h
  | v :: vs, 0, i, h => by simp at h; subst h; simp [bors]
  | v :: vs, k + 1, i, h => by
    have := bors_mem (vs := vs) (k := k) (i := i) (by simpa using h)
    cases v <;> simp [bors, this]
theorem bors_apart : ∀ {vs : List SV} {j k i i' : Nat}, (bors vs).Nodup → j < k → vs[j]? = some (.bor i) → vs[k]? = some (.bor i') → i ≠ i'
  | [], _, _, _, _, _, _, h, _ => by simp at h
  | v :: vs, 0, k + 1, i, i', nd, _, h1, h2 => by
    simp at h1; subst h1
    have m := bors_mem (vs := vs) (k := k) (by simpa using h2)
    simp [bors] at nd
    intro e; subst e; exact nd.1 m
  | v :: vs, j + 1, k + 1, i, i', nd, hl, h1, h2 => by
    have nd' : (bors vs).Nodup := by
      cases v <;> simp [bors] at nd
      · exact nd
      · exact nd
      · exact nd.2
    exact bors_apart (j := j) (k := k) nd' (by omega) (by simpa using h1) (by simpa using h2)
theorem live_args {p : Addr} (h : Live (sA xs) (fA as) p) : ∃ (k : Nat) (c : Cell), as[k]? = some (.own c) ∧ xs[k]? = some (.ref p) := by
  obtain ⟨k, c, h1, h2⟩ := h
  rw [List.getElem?_map] at h1 h2
  refine ⟨k, c, ?_, ?_⟩
  · cases e : as[k]? with
    | none => rw [e] at h1; cases h1
    | some s => rw [e] at h1; cases h1; rfl
  · cases e : xs[k]? with
    | none => rw [e] at h2; cases h2
    | some s => rw [e] at h2; cases h2; rfl
theorem args_live {p : Addr} {k : Nat} {c : Cell} (h1 : as[k]? = some (.own c)) (h2 : xs[k]? = some (.ref p)) : Live (sA xs) (fA as) p :=
  ⟨k, c, by rw [List.getElem?_map, h1]; rfl, by rw [List.getElem?_map, h2]; rfl⟩
/-- an object among the arguments: new, or of a slot -/
theorem arg_own (R : Rel K F H σ fm) (V : VsRel K F H σ fm vs xs) (hA : argsOf vs fm = some as) {k : Nat} {c : Cell} (h : as[k]? = some (.own c)) :
    ∃ p, xs[k]? = some (.ref p) ∧ F p = none ∧ CRel K F H p c ∧ ((vs[k]? = some (.fre c) ∧ ¬ Live σ fm p) ∨ (∃ i, vs[k]? = some (.bor i) ∧ fm[i]? = some (some (.own c)) ∧ σ[i]? = some (some (.ref p)))) := by
  obtain ⟨v, h1, h2⟩ := argsOf_get hA h
  obtain ⟨x, h3, h4⟩ := V.get h1
  cases v with
  | dat d => cases h2
  | fre c' =>
    cases h2
    obtain ⟨p, rfl, hf, hc, hl⟩ := h4
    exact ⟨p, h3, hf, hc, .inl ⟨h1, hl⟩⟩
  | bor i =>
    simp only [argOf] at h2
    obtain ⟨h5, s, h6⟩ := h4
    rw [h6] at h2
    cases h2
    obtain ⟨p, h7, h8, h9⟩ := R.own i c h6
    rw [h5] at h7; cases h7
    exact ⟨p, h3, h8, h9, .inr ⟨i, h1, h6, h5⟩⟩
theorem arg_dat (R : Rel K F H σ fm) (V : VsRel K F H σ fm vs xs) (hA : argsOf vs fm = some as) {k : Nat} {d : PyData} (h : as[k]? = some (.dat d)) :
    ∃ x, xs[k]? = some x ∧ Dq K F x d := by
  obtain ⟨v, h1, h2⟩ := argsOf_get hA h
  obtain ⟨x, h3, h4⟩ := V.get h1
  cases v with
  | dat d => cases h2; exact ⟨x, h3, h4⟩
  | fre c' => cases h2
  | bor i =>
    simp only [argOf] at h2
    obtain ⟨h5, s, h6⟩ := h4
    rw [h6] at h2
    cases h2
    obtain ⟨y, h7, h8⟩ := R.dat i d h6
    rw [h5] at h7; cases h7
    exact ⟨x, h3, h8⟩
theorem get_some {α : Type} {l : List α} {i : Nat} {a : α} (h : (l.map some)[i]? = some (some a)) : l[i]? = some a := by
  rw [List.getElem?_map] at h
  cases e : l[i]? with
  | none => rw [e] at h; cases h
  | some s => rw [e] at h; cases h; rfl
theorem some_get {α : Type} {l : List α} {i : Nat} {a : α} (h : l[i]? = some a) : (l.map some)[i]? = some (some a) := by
  rw [List.getElem?_map, h]; rfl
theorem args_rel (R : Rel K F H σ fm) (V : VsRel K F H σ fm vs xs) (hA : argsOf vs fm = some as) (nd : (bors vs).Nodup) : Rel K F H (sA xs) (fA as) := by
  refine ⟨R.sub, ?_, fun i d h => ?_, fun i c h => ?_, fun i j c c' p hne h1 h2 h3 h4 => ?_⟩
  · rw [List.length_map, List.length_map, argsOf_len hA, V.len]
  · obtain ⟨x, h1, h2⟩ := arg_dat R V hA (get_some h)
    exact ⟨x, some_get h1, h2⟩
  · obtain ⟨p, h1, h2, h3, _⟩ := arg_own R V hA (get_some h)
    exact ⟨p, some_get h1, h2, h3⟩
  · have key : ∀ {i j : Nat} {c c' : Cell}, i < j → as[i]? = some (.own c) → as[j]? = some (.own c') → xs[i]? = some (.ref p) → xs[j]? = some (.ref p) → False := fun {i j c c'} hl g1 g2 g3 g4 => by
      obtain ⟨p1, a1, a2, a3, a4⟩ := arg_own R V hA g1
      obtain ⟨p2, b1, b2, b3, b4⟩ := arg_own R V hA g2
      rw [g3] at a1; cases a1
      rw [g4] at b1; cases b1
      rcases a4 with ⟨u1, u2⟩ | ⟨ia, u1, u2, u3⟩ <;> rcases b4 with ⟨w1, w2⟩ | ⟨ib, w1, w2, w3⟩
      · exact V.apart hl u1 w1 g3 g4
      · exact u2 ⟨ib, _, w2, w3⟩
      · exact w2 ⟨ia, _, u2, u3⟩
      · exact R.apart ia ib c c' p (bors_apart nd hl u1 w1) u2 w2 u3 w3
    have e1 := get_some h1
    have e2 := get_some h2
    have e3 := get_some h3
    have e4 := get_some h4
    rcases Nat.lt_or_gt_of_ne hne with hl | hl
    · exact key hl e1 e2 e3 e4
    · exact key hl e2 e1 e4 e3
theorem wback_len : ∀ (vs : List SV) (outs : List S0) (fm : Fm), (wback vs outs fm).length = fm.length
  | [], _, _ => by simp [wback]
  | v :: vs, [], _ => by cases v <;> simp [wback]
  | v :: vs, o :: os, fm => by cases v <;> simp [wback, wback_len vs os fm]
theorem wback_out : ∀ {vs : List SV} {outs : List S0} {j : Nat}, (∀ k : Nat, vs[k]? ≠ some (.bor j)) → (wback vs outs fm)[j]? = fm[j]?
  | [], _, _, _ => by simp [wback]
  | v :: vs, [], _, _ => by cases v <;> simp [wback]
  | v :: vs, o :: os, j, h => by
    have ih := wback_out (vs := vs) (outs := os) (j := j) fun k => by simpa using h (k + 1)
    cases v with
    | dat d => simpa [wback] using ih
    | fre d => simpa [wback] using ih
    | bor i =>
      have ne : i ≠ j := fun e => h 0 (by subst e; rfl)
      simp only [wback]
      rw [List.getElem?_set_ne ne]
      exact ih
theorem wback_in : ∀ {vs : List SV} {outs : List S0} {j k : Nat} {o : S0}, (bors vs).Nodup → vs[k]? = some (.bor j) → outs[k]? = some o → j < fm.length → (wback vs outs fm)[j]? = some (some o)
  | [], _, _, _, _, _, h, _, _ => by simp at h
  | v :: vs, [], _, _, _, _, _, h, _ => by simp at h
  | v :: vs, o :: os, j, 0, o', nd, h1, h2, hl => by
    simp at h1 h2; subst h1 h2
    simp only [wback]
    exact List.getElem?_set_self (by rw [wback_len]; exact hl)
  | v :: vs, o :: os, j, k + 1, o', nd, h1, h2, hl => by
    have nd' : (bors vs).Nodup := by
      cases v <;> simp [bors] at nd
      · exact nd
      · exact nd
      · exact nd.2
    have ih := wback_in (vs := vs) (outs := os) (j := j) (k := k) nd' (by simpa using h1) (by simpa using h2) hl
    cases v with
    | dat d => simpa [wback] using ih
    | fre d => simpa [wback] using ih
    | bor i =>
      have ne : i ≠ j := bors_apart (j := 0) (k := k + 1) nd (by omega) rfl h1
      simp only [wback]
      rw [List.getElem?_set_ne ne]
      exact ih
theorem wback_cases (nd : (bors vs).Nodup) (hl : outs.length = vs.length) (j : Nat) (hj : j < fm.length) :
    (∃ (k : Nat) (o : S0), vs[k]? = some (.bor j) ∧ outs[k]? = some o ∧ (wback vs outs fm)[j]? = some (some o)) ∨ ((∀ k : Nat, vs[k]? ≠ some (.bor j)) ∧ (wback vs outs fm)[j]? = fm[j]?) := by
  by_cases h : ∃ k : Nat, vs[k]? = some (.bor j)
  · obtain ⟨k, hk⟩ := h
    have hkl : k < outs.length := by
      obtain ⟨z, _⟩ := List.getElem?_eq_some_iff.mp hk
      rw [hl]; exact z
    exact .inl ⟨k, outs[k], hk, by simp [hkl], wback_in nd hk (by simp [hkl]) hj⟩
  · have h' : ∀ k : Nat, vs[k]? ≠ some (.bor j) := fun k e => h ⟨k, e⟩
    exact .inr ⟨h', wback_out h'⟩
theorem call_aft (A : Aft K σ F0 H0 fm0 F H fm) (V : VsRel K F H σ fm vs xs) (N : VsNew H0 vs xs) (hA : argsOf vs fm = some as) (nd : (bors vs).Nodup) (B : Aft K (sA xs) F H (fA as) F' H' (fA outs)) :
    Aft K σ F0 H0 fm0 F' H' (wback vs outs fm) ∧ (∀ p, Live σ (wback vs outs fm) p → Live σ fm p ∨ Live (sA xs) (fA outs) p) := by
  have R := A.rel
  have hol : outs.length = vs.length := by
    have := B.rel.len
    rw [List.length_map, List.length_map] at this
    rw [this, V.len]
  have lv : ∀ p, Live (sA xs) (fA as) p → Live σ fm0 p ∨ H0 p = none := fun p h => by
    obtain ⟨k, c, h1, h2⟩ := live_args h
    obtain ⟨q, h3, h4, h5, h6⟩ := arg_own R V hA h1
    rw [h2] at h3; cases h3
    rcases h6 with ⟨h6, _⟩ | ⟨i, h6, h7, h8⟩
    · exact .inr (N.get h6 h2 p rfl)
    · exact A.ext.live p ⟨i, c, h7, h8⟩
  have slot : ∀ {j : Nat} {s : S0}, (wback vs outs fm)[j]? = some (some s) → (∃ (k : Nat) (x : L2.V), vs[k]? = some (.bor j) ∧ outs[k]? = some s ∧ xs[k]? = some x ∧ σ[j]? = some (some x)) ∨ ((∀ k : Nat, vs[k]? ≠ some (.bor j)) ∧ fm[j]? = some (some s)) := fun {j s} h => by
    have hj : j < fm.length := by
      obtain ⟨z, _⟩ := List.getElem?_eq_some_iff.mp h
      rwa [wback_len] at z
    rcases wback_cases nd hol j hj with ⟨k, o, h1, h2, h3⟩ | ⟨h1, h2⟩
    · rw [h] at h3; cases h3
      obtain ⟨x, h4, h5⟩ := V.get h1
      exact .inl ⟨k, x, h1, h2, h4, h5.1⟩
    · rw [h] at h2; exact .inr ⟨h1, h2.symm⟩
  have live2 : ∀ p, Live σ (wback vs outs fm) p → Live σ fm p ∨ Live (sA xs) (fA outs) p := fun p ⟨j, c, h1, h2⟩ => by
    rcases slot h1 with ⟨k, x, a1, a2, a3, a4⟩ | ⟨a1, a2⟩
    · rw [h2] at a4; cases a4
      exact .inr (args_live a2 a3)
    · exact .inl ⟨j, c, a2, h2⟩
  -- an own slot that was not handed over
  have kept : ∀ {j : Nat} {c : Cell} {p : Addr}, (∀ k : Nat, vs[k]? ≠ some (.bor j)) → fm[j]? = some (some (.own c)) → σ[j]? = some (some (.ref p)) → ¬ Live (sA xs) (fA as) p := fun {j c p} hn h1 h2 h => by
    obtain ⟨k, c', h3, h4⟩ := live_args h
    obtain ⟨q, h5, h6, h7, h8⟩ := arg_own R V hA h3
    rw [h4] at h5; cases h5
    rcases h8 with ⟨_, h8⟩ | ⟨i, h8, h9, h10⟩
    · exact h8 ⟨j, c, h1, h2⟩
    · by_cases e : i = j
      · subst e; exact hn k h8
      · exact R.apart i j c' c p e h9 h1 h10 h2
  refine ⟨⟨⟨A.ext.same.trans B.ext.same, fun a o hl h => ?_, fun a o h => ?_, fun a h => ?_, fun a h => A.ext.grow a (B.ext.grow a h)⟩, fun i s h => ?_, ⟨B.rel.sub, ?_, fun j d h => ?_, fun j c h => ?_, fun i j c c' p hne h1 h2 h3 h4 => ?_⟩⟩, live2⟩
  · refine B.ext.keep a o (fun q => ?_) (A.ext.keep a o hl h)
    rcases lv a q with q | q
    · exact hl q
    · rw [h] at q; cases q
  · rcases B.ext.new a o h with q | q | q
    · exact A.ext.new a o q
    · exact .inr (.inl (A.ext.grow a q))
    · rcases lv a q with q | q
      · exact .inr (.inr q)
      · exact .inr (.inl q)
  · rcases live2 a h with q | q
    · exact A.ext.live a q
    · rcases B.ext.live a q with q | q
      · exact lv a q
      · exact .inr (A.ext.grow a q)
  · obtain ⟨s1, h1⟩ := A.kp i s h
    have hj : i < fm.length := by
      obtain ⟨z, _⟩ := List.getElem?_eq_some_iff.mp h1
      exact z
    rcases wback_cases nd hol i hj with ⟨k, o, _, _, h3⟩ | ⟨_, h2⟩
    · exact ⟨o, h3⟩
    · exact ⟨s1, by rw [h2]; exact h1⟩
  · rw [wback_len]; exact R.len
  · rcases slot h with ⟨k, x, a1, a2, a3, a4⟩ | ⟨a1, a2⟩
    · obtain ⟨y, b1, b2⟩ := B.rel.dat k d (some_get a2)
      rw [some_get a3] at b1; cases b1
      exact ⟨x, a4, b2⟩
    · obtain ⟨y, b1, b2⟩ := R.dat j d a2
      exact ⟨y, b1, dp_mono B.ext.same b2⟩
  · rcases slot h with ⟨k, x, a1, a2, a3, a4⟩ | ⟨a1, a2⟩
    · obtain ⟨p, b1, b2, b3⟩ := B.rel.own k c (some_get a2)
      rw [some_get a3] at b1; cases b1
      exact ⟨p, a4, b2, b3⟩
    · obtain ⟨p, b1, b2, b3⟩ := R.own j c a2
      have nl := kept a1 a2 b1
      obtain ⟨o, ho⟩ := b3.some'
      refine ⟨p, b1, ?_, b3.mono B.ext.same fun o h => B.ext.keep p o nl h⟩
      cases q : F' p with
      | none => rfl
      | some u =>
        rcases B.ext.new p u q with z | z | z
        · rw [b2] at z; cases z
        · rw [ho] at z; cases z
        · exact absurd z nl
  · have old : ∀ {i j k : Nat} {c c' : Cell} {x : L2.V}, vs[k]? = some (.bor i) → outs[k]? = some (.own c) → xs[k]? = some x → σ[i]? = some (some x) → (∀ k : Nat, vs[k]? ≠ some (.bor j)) → fm[j]? = some (some (.own c')) → σ[i]? = some (some (.ref p)) → σ[j]? = some (some (.ref p)) → False := fun {i j k c c' x} a1 a2 a3 a4 b1 b2 g3 g4 => by
      rw [g3] at a4; cases a4
      have nl := kept b1 b2 g4
      obtain ⟨q, c1, c2, c3⟩ := R.own j c' b2
      rw [g4] at c1; cases c1
      obtain ⟨o, ho⟩ := c3.some'
      rcases B.ext.live p (args_live a2 a3) with z | z
      · exact nl z
      · rw [ho] at z; cases z
    rcases slot h1 with ⟨k, x, a1, a2, a3, a4⟩ | ⟨a1, a2⟩ <;> rcases slot h2 with ⟨k', x', b1, b2, b3, b4⟩ | ⟨b1, b2⟩
    · rw [h3] at a4; cases a4
      rw [h4] at b4; cases b4
      have hk : k ≠ k' := fun e => by subst e; rw [a1] at b1; cases b1; exact hne rfl
      exact B.rel.apart k k' c c' p hk (some_get a2) (some_get b2) (some_get a3) (some_get b3)
    · exact old a1 a2 a3 a4 b1 b2 h3 h4
    · exact old b1 b2 b3 b4 a1 a2 h4 h3
    · exact R.apart i j c c' p hne a2 b2 h3 h4
theorem tE_call {D : Dm} {ma : MA} {E : XK} {Q : VK} (h : tE K (mCall D ma) σ H Q) : tCall (spM K D) [] E (tA K ma) σ H Q := by
  obtain ⟨F, fm, v, fm', R, em, q⟩ := h
  obtain ⟨vs, fm1, as, outs, e1, e2, nd, e3, nb, rfl⟩ := mCall_inv em
  refine ⟨F, fm, vs, fm1, R, e1, fun xs F1 H1 A1 V1 N1 => ?_⟩
  show spM K D (xs ++ []) H1 Q E
  rw [List.append_nil]
  refine ⟨F1, as, v, outs, args_rel A1.rel V1 e2 nd, e3, fun x F2 H2 A2 V2 N2 => ?_⟩
  obtain ⟨A3, L3⟩ := call_aft A1 V1 N1 e2 nd A2
  refine q x F2 H2 A3 ?_ (A1.new N2)
  cases v with
  | dat d => exact V2
  | bor j => exact absurd rfl (nb j)
  | fre c =>
    obtain ⟨p, rfl, hf, hc, hl⟩ := V2
    refine ⟨p, rfl, hf, hc, fun z => ?_⟩
    rcases L3 p z with z | z
    · exact A1.rel.nolive (N2 p rfl) z
    · exact hl z
end
section
variable {X : Cx} {k : Nat} {f : Addr} {fd : FuncData} {ps : List Str} {E : XK} {x : Str} {p pos : Pos} {e : Expr} {es : List Expr}
theorem se_call {D : Dm} {ma : MA} (F : FnOk X.prog X.w X.K X.mg X.base CX0 k f fd ps (spM X.K D)) (hr : Room k X.A) (hg : Gl X x) (hm : X.mg x = some (.ref f)) (hk : PySem.W.keepIn X.K (.ref f) = true) (hb : Binds X.K fd ps []) (hx : Passes CX0 X E)
    (ha : SA X (e :: es) ma) (hdb : (x == ("__debug__" : Str)) = false := by decide) (he : starEach (e :: es) X.env = (false, eval e X.env) :: starEach es X.env := by rfl) (hpl : (backTo pos (starEach es X.env)).any (·.1) = false := by rfl) :
    SE X (.Call (.Name x p) (e :: es) [] pos) (mCall D ma) :=
  pe_le (pe_call F hr hg hm hk hb .nil hx ha hdb he hpl) fun σ H Q h => tE_call h
end
end Rf

namespace Rf
open PySem L2

/-! ### defs -/
def outAt (ro : List Nat) (i : Nat) (a : S0) (fm : Fm) : Option S0 := if i ∈ ro then (match fm[i]? with
    | some (some s) => some s
    | _ => none)
  else match a with
    | .dat d => some (.dat d)
    | _ => none
def outsFrom (ro : List Nat) (fm : Fm) : Nat → List S0 → Option (List S0)
  | _, [] => some []
  | i, a :: as => match outAt ro i a fm with
    | some o => match outsFrom ro fm (i + 1) as with
      | some os => some (o :: os)
      | none => none
    | none => none
/-- no parameter's object has been frozen -/
def ownsStay (fm : Fm) : Nat → List S0 → Bool
  | _, [] => true
  | i, .dat _ :: as => ownsStay fm (i + 1) as
  | i, .own _ :: as => match fm[i]? with
    | some (some (.own _)) => ownsStay fm (i + 1) as
    | _ => false
/-- what a def hands back -/
def retv (as : List S0) (v : SV) (fm : Fm) : Option (SV × Fm) := match v with
  | .dat d => some (.dat d, fm)
  | .fre c => some (.fre c, fm)
  | .bor j => if j < as.length then (match frz (.bor j) fm with
      | some (d, fm1) => some (.dat d, fm1)
      | none => none)
    else match fm[j]? with
      | some (some (.own c)) => if ownsStay fm 0 as then some (.fre c, fm.set j none) else none
      | some (some (.dat d)) => some (.dat d, fm)
      | _ => none
def mkD (n N : Nat) (ro : List Nat) (m : MS) : Dm := fun as => if as.length = n then (match m (as.map some ++ List.replicate (N - n) none) with
    | some (.rt v, fm1) => match retv as v fm1 with
      | some (r, fm2) => match outsFrom ro fm2 0 as with
        | some outs => some (r, outs)
        | none => none
      | none => none
    | some (.nx, fm1) => match outsFrom ro fm1 0 as with
      | some outs => some (.dat .none, outs)
      | none => none
    | _ => none) else none
section
variable {K : PySem.W.Frag} {F F' F0 F1 H H' H0 H1 : Hp} {σ σ' σ0 : L2.St} {fm fm0 fm1 fm' : Fm} {vs : List SV} {xs : List L2.V} {as outs : List S0} {ro : List Nat}
theorem outsFrom_len : ∀ {as outs : List S0} {i : Nat}, outsFrom ro fm i as = some outs → outs.length = as.length
  | [], _, _, h => by cases h; rfl
  | a :: as, outs, i, h => by
    simp only [outsFrom] at h
    split at h
    · split at h
      · rename_i os e
        cases h
        simp [outsFrom_len e]
      · cases h
    · cases h
theorem outsFrom_get : ∀ {as outs : List S0} {i k : Nat} {o : S0}, outsFrom ro fm i as = some outs → outs[k]? = some o → ∃ a, as[k]? = some a ∧ outAt ro (i + k) a fm = some o
  | [], _, _, _, _, h, e => by cases h; simp at e
  | a :: as, outs, i, k, o, h, e => by
    simp only [outsFrom] at h
    split at h
    · rename_i o1 e1
      split at h
      · rename_i os e2
        cases h
        cases k with
        | zero => simp at e; subst e; exact ⟨a, rfl, e1⟩
        | succ k =>
          obtain ⟨b, h1, h2⟩ := outsFrom_get (k := k) e2 (by simpa using e)
          refine ⟨b, by simpa using h1, ?_⟩
          rw [show i + (k + 1) = i + 1 + k by omega]
          exact h2
      · cases h
    · cases h
theorem outAt_cases {i : Nat} {a o : S0} (h : outAt ro i a fm = some o) : (i ∈ ro ∧ fm[i]? = some (some o)) ∨ (∃ d, a = .dat d ∧ o = .dat d) := by
  unfold outAt at h
  split at h
  · rename_i hi
    split at h
    · rename_i s e
      cases h
      exact .inl ⟨hi, e⟩
    · cases h
  · split at h
    · rename_i d
      cases h
      exact .inr ⟨d, rfl, rfl⟩
    · cases h
theorem ownsStay_get : ∀ {as : List S0} {i k : Nat} {c : Cell}, ownsStay fm i as = true → as[k]? = some (.own c) → ∃ c', fm[i + k]? = some (some (.own c'))
  | [], _, _, _, _, e => by simp at e
  | .dat d :: as, i, 0, c, h, e => by simp at e
  | .dat d :: as, i, k + 1, c, h, e => by
    obtain ⟨c', h1⟩ := ownsStay_get (k := k) (show ownsStay fm (i + 1) as = true from h) (by simpa using e)
    exact ⟨c', by rw [show i + (k + 1) = i + 1 + k by omega]; exact h1⟩
  | .own c0 :: as, i, k, c, h, e => by
    simp only [ownsStay] at h
    split at h
    · rename_i c1 e1
      cases k with
      | zero => exact ⟨c1, e1⟩
      | succ k =>
        obtain ⟨c', h1⟩ := ownsStay_get (k := k) h (by simpa using e)
        exact ⟨c', by rw [show i + (k + 1) = i + 1 + k by omega]; exact h1⟩
    · cases h
theorem pad_get {α : Type} {l : List α} {n i : Nat} {a : α} (h : (l.map some ++ List.replicate n none)[i]? = some (some a)) : l[i]? = some a := by
  by_cases hi : i < l.length
  · rw [List.getElem?_append_left (by simpa using hi)] at h
    exact get_some h
  · rw [List.getElem?_append_right (by simpa using hi)] at h
    rw [List.getElem?_replicate] at h
    split at h <;> cases h
theorem get_pad {α : Type} {l : List α} {n i : Nat} {a : α} (h : l[i]? = some a) : (l.map some ++ List.replicate n none)[i]? = some (some a) := by
  have hi : i < l.length := by
    obtain ⟨z, _⟩ := List.getElem?_eq_some_iff.mp h
    exact z
  rw [List.getElem?_append_left (by simpa using hi)]
  exact some_get h
theorem start_rel {n : Nat} (R : Rel K F H (sA xs) (fA as)) : Rel K F H (xs.map some ++ List.replicate n none) (as.map some ++ List.replicate n none) := by
  refine ⟨R.sub, ?_, fun i d h => ?_, fun i c h => ?_, fun i j c c' p hne h1 h2 h3 h4 => ?_⟩
  · have := R.len
    rw [List.length_map, List.length_map] at this
    simp [this]
  · obtain ⟨v, h1, h2⟩ := R.dat i d (some_get (pad_get h))
    exact ⟨v, get_pad (get_some h1), h2⟩
  · obtain ⟨v, h1, h2⟩ := R.own i c (some_get (pad_get h))
    exact ⟨v, get_pad (get_some h1), h2⟩
  · exact R.apart i j c c' p hne (some_get (pad_get h1)) (some_get (pad_get h2)) (some_get (pad_get h3)) (some_get (pad_get h4))
theorem live_pad {n : Nat} {p : Addr} (h : Live (xs.map some ++ List.replicate n none) (as.map some ++ List.replicate n none) p) : Live (sA xs) (fA as) p := by
  obtain ⟨i, c, h1, h2⟩ := h
  exact ⟨i, c, some_get (pad_get h1), some_get (pad_get h2)⟩
/-- the frame is left -/
theorem leave_ok {n : Nat} (R0 : Rel K F H (sA xs) (fA as)) (E : Ext (Live (sA xs) (fA as)) F H (Live σ' fm1) F' H') (R : Rel K F' H' σ' fm1) (pin : ∀ i ∈ ro, σ'[i]? = (xs.map some ++ List.replicate n none)[i]?) (ho : outsFrom ro fm1 0 as = some outs) :
    Aft K (sA xs) F H (fA as) F' H' (fA outs) ∧ (∀ p, Live (sA xs) (fA outs) p → Live σ' fm1 p) := by
  have hl : as.length = xs.length := by
    have := R0.len
    rwa [List.length_map, List.length_map] at this
  have hol := outsFrom_len ho
  have at' : ∀ {k : Nat} {o : S0}, outs[k]? = some o → (fm1[k]? = some (some o) ∧ ∃ x, xs[k]? = some x ∧ σ'[k]? = some (some x)) ∨ (∃ d, as[k]? = some (.dat d) ∧ o = .dat d) := fun {k o} h => by
    obtain ⟨a, h1, h2⟩ := outsFrom_get ho h
    rw [Nat.zero_add] at h2
    rcases outAt_cases h2 with ⟨h3, h4⟩ | ⟨d, rfl, rfl⟩
    · have hk : k < xs.length := by
        obtain ⟨z, _⟩ := List.getElem?_eq_some_iff.mp h
        omega
      refine .inl ⟨h4, xs[k], by simp [hk], ?_⟩
      rw [pin k h3]
      exact get_pad (by simp [hk])
    · exact .inr ⟨d, h1, rfl⟩
  have live' : ∀ p, Live (sA xs) (fA outs) p → Live σ' fm1 p := fun p h => by
    obtain ⟨k, c, h1, h2⟩ := live_args h
    rcases at' h1 with ⟨h3, x, h4, h5⟩ | ⟨d, _, h3⟩
    · rw [h2] at h4; cases h4
      exact ⟨k, c, h3, h5⟩
    · cases h3
  refine ⟨⟨⟨E.same, E.keep, E.new, fun p h => E.live p (live' p h), E.grow⟩, fun i s h => ?_, ⟨R.sub, ?_, fun i d h => ?_, fun i c h => ?_, fun i j c c' p hne h1 h2 h3 h4 => ?_⟩⟩, live'⟩
  · have hi : i < outs.length := by
      obtain ⟨z, _⟩ := List.getElem?_eq_some_iff.mp (get_some h)
      omega
    exact ⟨outs[i], some_get (by simp [hi])⟩
  · simp; omega
  · rcases at' (get_some h) with ⟨h3, x, h4, h5⟩ | ⟨d', h3, h4⟩
    · obtain ⟨y, h6, h7⟩ := R.dat i d h3
      rw [h5] at h6; cases h6
      exact ⟨x, some_get h4, h7⟩
    · cases h4
      obtain ⟨y, h6, h7⟩ := R0.dat i d (some_get h3)
      exact ⟨y, h6, dp_mono E.same h7⟩
  · rcases at' (get_some h) with ⟨h3, x, h4, h5⟩ | ⟨d', h3, h4⟩
    · obtain ⟨p, h6, h7⟩ := R.own i c h3
      rw [h5] at h6; cases h6
      exact ⟨p, some_get h4, h7⟩
    · cases h4
  · rcases at' (get_some h1) with ⟨a3, x, a4, a5⟩ | ⟨d', a3, a4⟩
    · rcases at' (get_some h2) with ⟨b3, y, b4, b5⟩ | ⟨d', b3, b4⟩
      · rw [some_get a4] at h3; cases h3
        rw [some_get b4] at h4; cases h4
        exact R.apart i j c c' p hne a3 b3 a5 b5
      · cases b4
    · cases a4
theorem Rel.drop {j : Nat} (R : Rel K F H σ fm) : Rel K F H σ (fm.set j none) := by
  have f : ∀ {i : Nat} {s : S0}, (fm.set j none)[i]? = some (some s) → fm[i]? = some (some s) := fun {i s} h => by
    rcases get_set h with ⟨rfl, e, _⟩ | ⟨ne, h⟩
    · cases e
    · exact h
  exact ⟨R.sub, by rw [List.length_set]; exact R.len, fun i d h => R.dat i d (f h), fun i c h => R.own i c (f h), fun i k c c' p hne h1 h2 => R.apart i k c c' p hne (f h1) (f h2)⟩
theorem live_drop {j : Nat} {p : Addr} (h : Live σ (fm.set j none) p) : Live σ fm p := by
  obtain ⟨i, c, h1, h2⟩ := h
  rcases get_set h1 with ⟨rfl, e, _⟩ | ⟨ne, h1⟩
  · cases e
  · exact ⟨i, c, h1, h2⟩
theorem body_ok {n N : Nat} {m : MS} {r : SV} {x : Str} {Q : VK} (R0 : Rel K F H (sA xs) (fA as)) (hn : as.length = n)
    (hx : ∀ x F' H', Aft K (sA xs) F H (fA as) F' H' (fA outs) → VRel K F' H' (sA xs) (fA outs) r x → VNew H r x → Q x H')
    (h : mkD n N ro m as = some (r, outs)) (hro : ∀ i ∈ ro, i < n) : tS K ro m { nx := fun _ H' => Q .non H', rt := Q } (xs.map some ++ List.replicate (N - n) none) H := by
  unfold mkD at h
  rw [if_pos hn] at h
  have hl : as.length = xs.length := by
    have := R0.len
    rwa [List.length_map, List.length_map] at this
  have S := start_rel (n := N - n) R0
  split at h
  · rename_i v fm1 e1
    split at h
    · rename_i r' fm2 e2
      split at h
      · rename_i outs' e3
        cases h
        refine ⟨F, _, _, fm1, S, e1, fun σ' F' H' A y V Nw => ?_⟩
        have E : Ext (Live (sA xs) (fA as)) F H (Live σ' fm1) F' H' := ⟨A.ext.same, fun a o hl h => A.ext.keep a o (fun q => hl (live_pad q)) h, fun a o h => by
          rcases A.ext.new a o h with q | q | q
          · exact .inl q
          · exact .inr (.inl q)
          · exact .inr (.inr (live_pad q)), fun a h => by
          rcases A.ext.live a h with q | q
          · exact .inl (live_pad q)
          · exact .inr q, A.ext.grow⟩
        cases v with
        | dat d =>
          cases e2
          obtain ⟨B, L⟩ := leave_ok R0 E A.rel A.pin e3
          exact hx y F' H' B V VNew.dat
        | fre c =>
          cases e2
          obtain ⟨B, L⟩ := leave_ok R0 E A.rel A.pin e3
          obtain ⟨p, rfl, hf, hc, hnl⟩ := V
          exact hx _ F' H' B ⟨p, rfl, hf, hc, fun z => hnl (L p z)⟩ Nw
        | bor j =>
          simp only [retv] at e2
          split at e2
          · split at e2
            · rename_i d fm3 e4
              cases e2
              obtain ⟨F2, E2, _, s2, R2, D2, k2, _⟩ := frz_ok E A.rel V Nw e4
              obtain ⟨B, L⟩ := leave_ok R0 E2 R2 A.pin e3
              exact hx y F2 H' B D2 VNew.dat
            · cases e2
          · rename_i hj
            split at e2
            · rename_i c ec
              split at e2
              · rename_i hs
                cases e2
                obtain ⟨p, h1, hf, hc⟩ := A.rel.own j c ec
                obtain ⟨h2, _⟩ := V
                rw [h1] at h2; cases h2
                have E2 : Ext (Live (sA xs) (fA as)) F H (Live σ' (fm1.set j none)) F' H' := ⟨E.same, E.keep, E.new, fun a h => E.live a (live_drop h), E.grow⟩
                have hjl : j < fm1.length := by
                  obtain ⟨z, _⟩ := List.getElem?_eq_some_iff.mp ec
                  exact z
                obtain ⟨B, L⟩ := leave_ok R0 E2 A.rel.drop A.pin e3
                refine hx _ F' H' B ⟨p, rfl, hf, hc, fun z => ?_⟩ fun q e => ?_
                · obtain ⟨i, c', a1, a2⟩ := L p z
                  rcases get_set a1 with ⟨rfl, e, _⟩ | ⟨ne, a1⟩
                  · cases e
                  · exact A.rel.apart j i c c' p ne ec a1 h1 a2
                · cases e
                  rcases E.live p ⟨j, c, ec, h1⟩ with z | z
                  · obtain ⟨k, c', a1, a2⟩ := live_args z
                    obtain ⟨c2, a3⟩ := ownsStay_get hs a1
                    rw [Nat.zero_add] at a3
                    have hk : k < as.length := by
                      obtain ⟨z, _⟩ := List.getElem?_eq_some_iff.mp a1
                      exact z
                    obtain ⟨o, ho⟩ : ∃ o, outs[k]? = some o := by
                      have := outsFrom_len e3
                      exact ⟨outs[k]'(by omega), by simp⟩
                    obtain ⟨a, b1, b2⟩ := outsFrom_get e3 ho
                    rw [Nat.zero_add] at b2
                    rw [a1] at b1; cases b1
                    rcases outAt_cases b2 with ⟨b3, b4⟩ | ⟨d, b3, _⟩
                    · have : σ'[k]? = some (some (.ref p)) := by
                        rw [A.pin k b3]; exact get_pad a2
                      exact absurd this (A.rel.apart j k c c2 p (by omega) ec a3 h1)
                    · cases b3
                  · exact z
              · cases e2
            · rename_i d ed
              cases e2
              obtain ⟨z, h1, h2⟩ := A.rel.dat j d ed
              obtain ⟨h3, _⟩ := V
              rw [h1] at h3; cases h3
              obtain ⟨B, L⟩ := leave_ok R0 E A.rel A.pin e3
              exact hx _ F' H' B h2 VNew.dat
            · cases e2
      · cases h
    · cases h
  · rename_i fm1 e1
    split at h
    · rename_i outs' e3
      cases h
      refine ⟨F, _, _, fm1, S, e1, fun σ' F' H' A => ?_⟩
      have E : Ext (Live (sA xs) (fA as)) F H (Live σ' fm1) F' H' := ⟨A.ext.same, fun a o hl h => A.ext.keep a o (fun q => hl (live_pad q)) h, fun a o h => by
        rcases A.ext.new a o h with q | q | q
        · exact .inl q
        · exact .inr (.inl q)
        · exact .inr (.inr (live_pad q)), fun a h => by
        rcases A.ext.live a h with q | q
        · exact .inl (live_pad q)
        · exact .inr q, A.ext.grow⟩
      obtain ⟨B, L⟩ := leave_ok R0 E A.rel A.pin e3
      exact hx _ F' H' B .non VNew.dat
    · cases h
  · cases h
end
section
variable {P : Program} {w : World} {K : PySem.W.Frag} {mg : Str → Option Value} {base : Heap}
theorem fn_ok {x qual : Str} {st : Stmt} {f : Addr} {fd : FuncData} {N ps : List Str} {k : Nat} {ro : List Nat} {m : MS} (Fn : Fun K x qual st f fd) (S : FnScope N ps (defScope st)) (hro : ∀ i ∈ ro, i < ps.length)
    (hb : ∀ (cdv : Value) (A : Around) (outer : List Env) (s : Shared) (H : Hp) (E : XK), Room k (A.deeper (PyProof.Rows.envOfC qual (defScope st) s.heap.objs.size f cdv)) → SSs (cxOf CX0 P w K mg base N qual (defScope st) f cdv A outer s H E).nox ro (defBody st) m) :
    FnOk P w K mg base CX0 (k + 1) f fd ps (spM K (mkD ps.length N.length ro m)) := by
  refine Fn.ok S (fun vs H Q E h => ?_) fun cdv A outer s H vs Q E hr h => ?_
  · obtain ⟨F, as, r, outs, R, em, _⟩ := h
    have := R.len
    rw [List.length_map, List.length_map] at this
    rw [← this]
    unfold mkD at em
    split at em
    · assumption
    · cases em
  · obtain ⟨F, as, r, outs, R, em, q⟩ := h
    have hl : as.length = vs.length := by
      have := R.len
      rwa [List.length_map, List.length_map] at this
    have hn : as.length = ps.length := by
      unfold mkD at em
      split at em
      · assumption
      · cases em
    refine ⟨_, hb cdv A outer s H E hr, ?_⟩
    have := body_ok (x := x) R hn q em hro
    unfold L2.start
    rw [← hl, hn]
    exact this
end
end Rf

namespace Rf
open PySem L2

/-! ### comprehensions -/
def wipeF (fm : Fm) : List Nat → Fm
  | [] => fm
  | v :: vs => (wipeF fm vs).set v none
/-- behind the block: its names as they were (data alone) -/
def unwipe (fm0 fm : Fm) : List Nat → Option Fm
  | [] => some fm
  | v :: vs => match unwipe fm0 fm vs with
    | none => none
    | some fm' => match fm0[v]? with
      | some (some (.dat d)) => some (fm'.set v (some (.dat d)))
      | some (some (.own _)) => none
      | _ => some (fm'.set v none)
def compM (g : MG) (mt : MT) (me : ME) (vs : List Nat) : List PyData → Fm → List PyData → Option (List PyData × Fm)
  | [], fm, acc => some (acc, fm)
  | d :: ds, fm, acc => match g d fm with
    | none => none
    | some fm1 => match mt fm1 with
      | none => none
      | some (false, fm2) => compM g mt me vs ds (wipeF fm2 vs) acc
      | some (true, fm2) => match me fm2 with
        | none => none
        | some (v, fm3) => match frz v fm3 with
          | none => none
          | some (d', fm4) => if acc.length < sizeLine then compM g mt me vs ds (wipeF fm4 vs) (acc ++ [d']) else none
/-- n: the names' number -/
def mLc (n : Nat) (mi : MI) (g : MG) (mt : MT) (me : ME) (vs : List Nat) : ME := fun fm => match mi fm with
  | none => none
  | some (ds, fm1) => if fm.length ≤ n then (match compM g mt me vs ds (wipeF fm1 vs) [] with
    | none => none
    | some (acc, fm2) => match unwipe fm1 fm2 vs with
      | none => none
      | some fm3 => some (.fre (.lst acc), fm3)) else none
def GOk (g : MG) : Prop := ∀ d fm fm', g d fm = some fm' → fm'.length = fm.length ∧ Keeps fm fm'
section
variable {K : PySem.W.Frag} {F F' F0 F1 H H' H0 H1 : Hp} {σ σ' σ0 : L2.St} {fm fm0 fm1 fm' : Fm}
theorem wipeF_len : ∀ vs : List Nat, (wipeF fm vs).length = fm.length
  | [] => rfl
  | v :: vs => by unfold wipeF; rw [List.length_set, wipeF_len vs]
theorem wipeF_some {i : Nat} {s : S0} : ∀ {vs : List Nat}, (wipeF fm vs)[i]? = some (some s) → fm[i]? = some (some s) ∧ i ∉ vs
  | [], h => ⟨h, by simp⟩
  | v :: vs, h => by
    unfold wipeF at h
    rcases get_set h with ⟨rfl, e, _⟩ | ⟨ne, h⟩
    · cases e
    · obtain ⟨h1, h2⟩ := wipeF_some h
      exact ⟨h1, by simp only [List.mem_cons, not_or]; exact ⟨fun e => ne e.symm, h2⟩⟩
theorem wipeF_out {i : Nat} : ∀ {vs : List Nat}, i ∉ vs → (wipeF fm vs)[i]? = fm[i]?
  | [], _ => rfl
  | v :: vs, h => by
    simp only [List.mem_cons, not_or] at h
    unfold wipeF
    rw [List.getElem?_set_ne fun e => h.1 e.symm]
    exact wipeF_out h.2
theorem wipe_in {i : Nat} : ∀ {vs : List Nat}, i ∈ vs → i < σ.length → (wipe σ vs)[i]? = some none
  | v :: vs, h, hl => by
    unfold wipe
    by_cases e : v = i
    · subst e; exact List.getElem?_set_self (by rw [wipe_length]; exact hl)
    · rw [List.getElem?_set_ne e]
      rcases List.mem_cons.mp h with h | h
      · exact absurd h.symm e
      · exact wipe_in h hl
theorem wipe_eq {vs : List Nat} (hl : σ'.length = σ.length) (h : ∀ i, i < σ.length → i ∉ vs → σ'[i]? = σ[i]?) : wipe σ' vs = wipe σ vs := by
  apply List.ext_getElem?
  intro i
  by_cases hi : i < σ.length
  · by_cases hv : i ∈ vs
    · rw [wipe_in hv hi, wipe_in hv (by omega)]
    · rw [wipe_out hv, wipe_out hv, h i hi hv]
  · rw [List.getElem?_eq_none (by rw [wipe_length]; omega), List.getElem?_eq_none (by rw [wipe_length]; omega)]
theorem Rel.wipe {vs : List Nat} (R : Rel K F H σ fm) : Rel K F H (L2.wipe σ vs) (wipeF fm vs) := by
  refine ⟨R.sub, by rw [wipeF_len, wipe_length]; exact R.len, fun i d h => ?_, fun i c h => ?_, fun i j c c' p hne h1 h2 h3 h4 => ?_⟩
  · obtain ⟨h1, h2⟩ := wipeF_some h
    rw [wipe_out h2]; exact R.dat i d h1
  · obtain ⟨h1, h2⟩ := wipeF_some h
    rw [wipe_out h2]; exact R.own i c h1
  · obtain ⟨a1, a2⟩ := wipeF_some h1
    obtain ⟨b1, b2⟩ := wipeF_some h2
    rw [wipe_out a2] at h3
    rw [wipe_out b2] at h4
    exact R.apart i j c c' p hne a1 b1 h3 h4
theorem live_wipe {vs : List Nat} {p : Addr} (h : Live (L2.wipe σ vs) (wipeF fm vs) p) : Live σ fm p := by
  obtain ⟨i, c, h1, h2⟩ := h
  obtain ⟨a1, a2⟩ := wipeF_some h1
  rw [wipe_out a2] at h2
  exact ⟨i, c, a1, h2⟩
theorem unwipe_len : ∀ {vs : List Nat} {fm' : Fm}, unwipe fm0 fm vs = some fm' → fm'.length = fm.length
  | [], _, h => by cases h; rfl
  | v :: vs, fm', h => by
    simp only [unwipe] at h
    split at h
    · cases h
    · rename_i f1 e1
      have := unwipe_len e1
      split at h <;> cases h <;> simpa using this
theorem unwipe_get {i : Nat} {s : S0} : ∀ {vs : List Nat} {fm' : Fm}, unwipe fm0 fm vs = some fm' → fm'[i]? = some (some s) → (i ∈ vs ∧ fm0[i]? = some (some s) ∧ ∃ d, s = .dat d) ∨ (i ∉ vs ∧ fm[i]? = some (some s))
  | [], _, h, e => by cases h; exact .inr ⟨by simp, e⟩
  | v :: vs, fm', h, e => by
    simp only [unwipe] at h
    split at h
    · cases h
    · rename_i f1 e1
      have go : ∀ {o : Option S0}, fm' = f1.set v o → (i = v ∧ o = some s) ∨ (i ≠ v ∧ ((i ∈ vs ∧ fm0[i]? = some (some s) ∧ ∃ d, s = .dat d) ∨ (i ∉ vs ∧ fm[i]? = some (some s)))) := fun {o} ef => by
        rw [ef] at e
        rcases get_set e with ⟨a1, a2, _⟩ | ⟨a1, a2⟩
        · exact .inl ⟨a1.symm, a2.symm⟩
        · exact .inr ⟨fun z => a1 z.symm, unwipe_get e1 a2⟩
      split at h
      · rename_i d ed
        cases h
        rcases go rfl with ⟨rfl, a2⟩ | ⟨a1, a2 | ⟨a2, a3⟩⟩
        · cases a2; exact .inl ⟨by simp, ed, d, rfl⟩
        · exact .inl ⟨List.mem_cons_of_mem _ a2.1, a2.2⟩
        · exact .inr ⟨by simp only [List.mem_cons, not_or]; exact ⟨a1, a2⟩, a3⟩
      · cases h
      · cases h
        rcases go rfl with ⟨rfl, a2⟩ | ⟨a1, a2 | ⟨a2, a3⟩⟩
        · cases a2
        · exact .inl ⟨List.mem_cons_of_mem _ a2.1, a2.2⟩
        · exact .inr ⟨by simp only [List.mem_cons, not_or]; exact ⟨a1, a2⟩, a3⟩
theorem unwipe_keep {i : Nat} {s : S0} : ∀ {vs : List Nat} {fm' : Fm}, unwipe fm0 fm vs = some fm' → fm0.length = fm.length → fm0[i]? = some (some s) → (i ∉ vs → ∃ s', fm[i]? = some (some s')) → ∃ s', fm'[i]? = some (some s')
  | [], _, h, _, e, k => by cases h; exact k (by simp)
  | v :: vs, fm', h, hl, e, k => by
    simp only [unwipe] at h
    split at h
    · cases h
    · rename_i f1 e1
      have hf1 := unwipe_len e1
      have hi : i < fm0.length := by
        obtain ⟨z, _⟩ := List.getElem?_eq_some_iff.mp e
        exact z
      by_cases hv : v = i
      · subst hv
        rw [e] at h
        cases s with
        | dat d =>
          cases h
          exact ⟨_, List.getElem?_set_self (by omega)⟩
        | own c => cases h
      · obtain ⟨s', hs'⟩ := unwipe_keep e1 hl e fun hn => k (by simp only [List.mem_cons, not_or]; exact ⟨fun z => hv z.symm, hn⟩)
        split at h
        · cases h; exact ⟨s', by rw [List.getElem?_set_ne hv]; exact hs'⟩
        · cases h
        · cases h; exact ⟨s', by rw [List.getElem?_set_ne hv]; exact hs'⟩
/-- an object that no slot holds changes -/
theorem Rel.updD {D : Addr} {o : HO} (R : Rel K F H σ fm) (hf : F D = none) (hl : ¬ Live σ fm D) : Rel K F (upd H D o) σ fm := by
  refine ⟨fun b u q => ?_, R.len, R.dat, fun i c h => ?_, R.apart⟩
  · have ne : b ≠ D := fun e => by subst e; rw [hf] at q; cases q
    rw [upd_ne ne]; exact R.sub _ _ q
  · obtain ⟨p, h1, h2, h3⟩ := R.own i c h
    have ne : p ≠ D := fun e => hl (by subst e; exact ⟨i, c, h, h1⟩)
    exact ⟨p, h1, h2, h3.mono (Same.refl _) fun u q => by rw [upd_ne ne]; exact q⟩
/-- an object outside stays outside -/
theorem Ext.outF {L L' : Addr → Prop} {D : Addr} {o : HO} (E : Ext L F H L' F' H') (hf : F D = none) (hl : ¬ L D) (ho : H D = some o) : F' D = none ∧ ¬ L' D ∧ H' D = some o := by
  refine ⟨?_, fun q => ?_, E.keep D o hl ho⟩
  · cases q : F' D with
    | none => rfl
    | some u =>
      rcases E.new D u q with z | z | z
      · rw [hf] at z; cases z
      · rw [ho] at z; cases z
      · exact absurd z hl
  · rcases E.live D q with z | z
    · exact hl z
    · rw [ho] at z; cases z
/-- what a comprehension has come to, behind some turns -/
structure CompAt (K : PySem.W.Frag) (σ : L2.St) (F H : Hp) (fm1 : Fm) (vs : List Nat) (F1 : Hp) (D : Addr) (Hc : Hp) (fmc : Fm) (acc : List PyData) : Prop where
  at' : ∃ Fc accV, Ext (Live σ fm1) F1 H (Live (L2.wipe σ vs) fmc) Fc Hc ∧ Rel K Fc Hc (L2.wipe σ vs) fmc ∧ Fc D = none ∧ ¬ Live (L2.wipe σ vs) fmc D ∧ Hc D = some (.lst accV) ∧ DqAll K Fc accV acc
  len : fmc.length = fm1.length
  kp : ∀ i s, i ∉ vs → fm1[i]? = some (some s) → ∃ s', fmc[i]? = some (some s')
theorem tE_lc {Rl : RLT} {n : Nat} {mi : MI} {ro : List Nat} {g : MG} {mt : MT} {me : ME} {vs : List Nat} {Q : VK} (hg : GOk g) (hro : ∀ i, i < n → i ∈ ro ∨ i ∈ vs) (h : tE K (mLc n mi g mt me vs) σ H Q) : tLc (tI K Rl mi) (tG K Rl ro g) (tT K mt) (tE K me) vs σ H Q := by
  obtain ⟨F, fm, v, fm', R, em, q⟩ := h
  unfold mLc at em
  split at em
  · cases em
  · rename_i ds fm1 e1
    split at em
    · rename_i hn
      split at em
      · cases em
      · rename_i acc fm2 e2
        split at em
        · cases em
        · rename_i fm3 e3
          cases em
          refine ⟨F, fm, ds, fm1, R, e1, fun J F1 H1 A1 IO D hD => ?_⟩
          have hσn : σ.length ≤ n := by rw [← R.len]; exact hn
          refine ⟨fun i m Hc => m = ds.length - i ∧ i ≤ ds.length ∧ ∃ fmc accc, CompAt K σ F H1 fm1 vs F1 D Hc fmc accc ∧ Same F1 F1 ∧ compM g mt me vs (ds.drop i) fmc accc = some (acc, fm2), ⟨ds.length, rfl, Nat.zero_le _, wipeF fm1 vs, [], ⟨⟨F1, [], ?_, ?_, ?_, ?_, upd_same, .nil⟩, wipeF_len _, fun i s hi h => ⟨s, by rw [wipeF_out hi]; exact h⟩⟩, Same.refl _, e2⟩, ?_⟩
          · have a := (Aft.lay (o := HO.lst []) A1.rel hD)
            exact ⟨Same.refl _, a.ext.keep, a.ext.new, fun p h => .inl (live_wipe h), a.ext.grow⟩
          · exact (Aft.lay A1.rel hD).rel.wipe
          · exact A1.rel.fnone hD
          · exact fun z => A1.rel.nolive hD (live_wipe z)
          · rintro i m Hc ⟨rfl, hi, fmc, accc, ⟨⟨Fc, accV, E, Rc, hfD, hlD, hHD, hacc⟩, hlen, hkp⟩, _, el⟩
            by_cases hlt : i < ds.length
            · refine .inr ⟨IO.go i Hc (E.same.trans Rc.sub) hlt, fun H' => (i + 1 ≤ ds.length ∧ ∃ fmc accc, CompAt K σ F H1 fm1 vs F1 D H' fmc accc ∧ Same F1 F1 ∧ compM g mt me vs (ds.drop (i + 1)) fmc accc = some (acc, fm2)), fun H' p => ⟨ds.length - (i + 1), by omega, rfl, p.1, p.2⟩, fun x H' y => ?_⟩
              obtain ⟨F2, G, Dx⟩ := IO.yld i ds[i] Fc Hc x H' (by simp [hlt]) E.same Rc.sub y
              have A2 := G.aft Rc
              rw [List.drop_eq_getElem_cons hlt] at el
              simp only [compM] at el
              split at el
              · cases el
              · rename_i fmg eg
                obtain ⟨gl, gk⟩ := hg _ _ _ eg
                refine ⟨F2, fmc, ds[i], fmg, A2.rel, Dx, eg, fun σ2 F3 H3 A3 => ⟨?_, ?_⟩⟩
                · have hlw : σ2.length = (L2.wipe σ vs).length := by rw [← A3.rel.len, gl, A2.rel.len]
                  have : L2.wipe σ2 vs = L2.wipe (L2.wipe σ vs) vs := wipe_eq hlw fun j hj hv => A3.pin j ((hro j (by rw [wipe_length] at hj; omega)).resolve_right hv)
                  rw [this]
                  exact wipe_eq (wipe_length _ _) fun j hj hv => wipe_out hv
                · have hw : L2.wipe σ2 vs = L2.wipe σ vs := by
                    have hlw : σ2.length = (L2.wipe σ vs).length := by rw [← A3.rel.len, gl, A2.rel.len]
                    have : L2.wipe σ2 vs = L2.wipe (L2.wipe σ vs) vs := wipe_eq hlw fun j hj hv => A3.pin j ((hro j (by rw [wipe_length] at hj; omega)).resolve_right hv)
                    rw [this]
                    exact wipe_eq (wipe_length _ _) fun j hj hv => wipe_out hv
                  have E3 := (E.trans A2.ext).trans A3.ext
                  obtain ⟨d1, d2, d3⟩ := (A2.ext.trans A3.ext).outF hfD hlD hHD
                  split at el
                  · cases el
                  · rename_i fm4 e4
                    refine ⟨F3, fmg, _, fm4, A3.rel, e4, fun F4 H4 A4 => ?_⟩
                    refine iteF ⟨hlt, wipeF fm4 vs, accc, ⟨⟨F4, accV, ?_, ?_, ?_, ?_, ?_, ?_⟩, ?_, ?_⟩, Same.refl _, el⟩
                    · have E4 := E3.trans A4.ext
                      exact ⟨E4.same, E4.keep, E4.new, fun p h => E4.live p (by rw [← hw] at h; exact live_wipe h), E4.grow⟩
                    · rw [← hw]; exact A4.rel.wipe
                    · exact (A4.ext.outF d1 d2 d3).1
                    · intro z; rw [← hw] at z; exact (A4.ext.outF d1 d2 d3).2.1 (live_wipe z)
                    · exact (A4.ext.outF d1 d2 d3).2.2
                    · exact dpAll_mono ((A2.ext.same.trans A3.ext.same).trans A4.ext.same) hacc
                    · rw [wipeF_len, A4.rel.len, ← A3.rel.len, gl, hlen]
                    · intro j s hj hs
                      obtain ⟨s1, h1⟩ := hkp j s hj hs
                      obtain ⟨s2, h2⟩ := gk j s1 h1
                      obtain ⟨s3, h3⟩ := A4.kp j s2 h2
                      exact ⟨s3, by rw [wipeF_out hj]; exact h3⟩
                  · rename_i fm4 e4
                    refine ⟨F3, fmg, _, fm4, A3.rel, e4, fun F4 H4 A4 => iteT ?_⟩
                    obtain ⟨k1, k2, k3⟩ := A4.ext.outF d1 d2 d3
                    split at el
                    · cases el
                    · rename_i v5 fm5 e5
                      split at el
                      · cases el
                      · rename_i d6 fm6 e6
                        split at el
                        · rename_i hz
                          refine ⟨F4, fm4, v5, fm5, A4.rel, e5, fun y H5F H5 A5 V5 N5 => ?_⟩
                          obtain ⟨F6, E6, Ea6, s6, R6, D6, kp6, nw6⟩ := frz_ok A5.ext A5.rel V5 N5 e6
                          obtain ⟨j1, j2, j3⟩ := A5.ext.outF k1 k2 k3
                          obtain ⟨l1, l2, _⟩ := E6.outF k1 k2 k3
                          refine ⟨accV, j3, by rw [dpAll_len hacc]; exact hz, hlt, wipeF fm6 vs, accc ++ [d6], ⟨⟨F6, accV ++ [y], ?_, ?_, l1, ?_, upd_same, ?_⟩, ?_, ?_⟩, Same.refl _, el⟩
                          · have E7 := (E3.trans A4.ext).trans E6
                            have hD1 : H1 D = none := hD
                            have hnl1 : ¬ Live σ fm1 D := A1.rel.nolive hD1
                            refine ⟨E7.same, fun a o hl h => ?_, E7.new, fun p h => E7.live p (by rw [← hw] at h; exact live_wipe h), fun a h => ?_⟩
                            · have ne : a ≠ D := fun z => by subst z; rw [hD1] at h; cases h
                              rw [upd_ne ne]; exact E7.keep a o hl h
                            · by_cases z : a = D
                              · subst z; exact hD1
                              · rw [upd_ne z] at h; exact E7.grow a h
                          · have R7 := R6.updD (o := HO.lst (accV ++ [y])) l1 l2
                            rw [← hw]; exact R7.wipe
                          · intro z; rw [← hw] at z; exact l2 (live_wipe z)
                          · exact dpAll_app (dpAll_mono (((A2.ext.same.trans A3.ext.same).trans A4.ext.same).trans E6.same) hacc) (.cons D6 .nil)
                          · rw [wipeF_len, R6.len, ← A3.rel.len, gl, hlen]
                          · intro j s hj hs
                            obtain ⟨s1, h1⟩ := hkp j s hj hs
                            obtain ⟨s2, h2⟩ := gk j s1 h1
                            obtain ⟨s3, h3⟩ := A4.kp j s2 h2
                            obtain ⟨s4, h4⟩ := A5.kp j s3 h3
                            obtain ⟨s5, h5⟩ := kp6 j s4 h4
                            exact ⟨s5, by rw [wipeF_out hj]; exact h5⟩
                        · cases el
            · have e : i = ds.length := by omega
              subst e
              rw [List.drop_length] at el
              cases el
              refine .inl ⟨IO.stop Hc (E.same.trans Rc.sub), ?_⟩
              have E2 := A1.ext
              have hsl : ∀ {i : Nat} {s : S0}, fm'[i]? = some (some s) → (i ∈ vs ∧ fm1[i]? = some (some s) ∧ ∃ d, s = .dat d) ∨ (i ∉ vs ∧ fm2[i]? = some (some s)) := fun {i s} => unwipe_get e3
              have lv : ∀ p, Live σ fm' p → Live (L2.wipe σ vs) fm2 p := fun p ⟨i, c, h1, h2⟩ => by
                rcases hsl h1 with ⟨_, _, d, z⟩ | ⟨h3, h4⟩
                · cases z
                · exact ⟨i, c, h4, by rw [wipe_out h3]; exact h2⟩
              refine q _ Fc Hc ⟨E2.trans ⟨E.same, E.keep, E.new, fun p h => E.live p (lv p h), E.grow⟩, fun i s h => ?_, ⟨Rc.sub, ?_, fun i d h => ?_, fun i c h => ?_, fun i j c c' p hne h1 h2 h3 h4 => ?_⟩⟩ ⟨D, rfl, hfD, ⟨accV, hHD, hacc⟩, fun z => hlD (lv D z)⟩ (VNew.ref (A1.ext.grow D hD))
              · obtain ⟨s1, h1⟩ := A1.kp i s h
                exact unwipe_keep e3 hlen.symm h1 fun hv => hkp i s1 hv h1
              · rw [unwipe_len e3, hlen]; exact A1.rel.len
              · rcases hsl h with ⟨_, h1, _⟩ | ⟨h1, h2⟩
                · obtain ⟨y, h3, h4⟩ := A1.rel.dat i d h1
                  exact ⟨y, h3, dp_mono E.same h4⟩
                · obtain ⟨y, h3, h4⟩ := Rc.dat i d h2
                  rw [wipe_out h1] at h3
                  exact ⟨y, h3, h4⟩
              · rcases hsl h with ⟨_, _, d, z⟩ | ⟨h1, h2⟩
                · cases z
                · obtain ⟨y, h3, h4⟩ := Rc.own i c h2
                  rw [wipe_out h1] at h3
                  exact ⟨y, h3, h4⟩
              · rcases hsl h1 with ⟨_, _, d, z⟩ | ⟨a1, a2⟩
                · cases z
                · rcases hsl h2 with ⟨_, _, d, z⟩ | ⟨b1, b2⟩
                  · cases z
                  · exact Rc.apart i j c c' p hne a2 b2 (by rw [wipe_out a1]; exact h3) (by rw [wipe_out b1]; exact h4)
    · cases em
end
end Rf

namespace Rf
open PySem L2

/-! ### numbers -/
section
variable {K : PySem.W.Frag}
def fI (C : Int → Int → Bool) (g : Int → Int → PyData) : F2 := fun va vb fm => match peek va fm, peek vb fm with
  | some (.int i), some (.int j) => if C i j then some (.dat (g i j), fm) else none
  | _, _ => none
theorem fI_inv {C : Int → Int → Bool} {g : Int → Int → PyData} {va vb v : SV} {fm fm' : Fm} (h : fI C g va vb fm = some (v, fm')) : ∃ i j, peek va fm = some (.int i) ∧ peek vb fm = some (.int j) ∧ C i j = true ∧ v = .dat (g i j) ∧ fm' = fm := by
  unfold fI at h
  split at h
  · rename_i i j h1 h2
    split at h
    · rename_i hc
      cases h
      exact ⟨i, j, h1, h2, hc, rfl, rfl⟩
    · cases h
  · cases h
theorem prim_I {C : Int → Int → Prop} {Cb : Int → Int → Bool} {g : Int → Int → V} {gd : Int → Int → PyData} (hC : ∀ i j, Cb i j = true → C i j) (hg : ∀ K F i j, Dq K F (g i j) (gd i j)) : Prim2 K (rI C g) (fI Cb gd) := by
  intro F H σ fm fm' va vb x y v R Va Vb h Q q
  obtain ⟨i, j, h1, h2, hc, rfl, rfl⟩ := fI_inv h
  exact ⟨i, j, peek_int R Va h1, peek_int R Vb h2, hC i j hc, q _ F H (Aft.refl R) (hg _ _ _ _) VNew.dat⟩
def cY : Int → Int → Bool := fun _ _ => true
theorem prim_I0 {g : Int → Int → V} {gd : Int → Int → PyData} (hg : ∀ K F i j, Dq K F (g i j) (gd i j)) : Prim2 K (rI0 g) (fI cY gd) := by
  intro F H σ fm fm' va vb x y v R Va Vb h Q q
  obtain ⟨i, j, h1, h2, hc, rfl, rfl⟩ := fI_inv h
  exact ⟨i, j, peek_int R Va h1, peek_int R Vb h2, q _ F H (Aft.refl R) (hg _ _ _ _) VNew.dat⟩
def fAdd : F2 := fI cY fun i j => .int (i + j)
def fSub : F2 := fI cY fun i j => .int (i - j)
def cMul : Int → Int → Bool := fun i j => (decide (-(2 ^ 64) < i) && decide (i < 2 ^ 64)) || (decide (-(2 ^ 64) < j) && decide (j < 2 ^ 64))
def fMul : F2 := fI cMul fun i j => .int (i * j)
def cMod : Int → Int → Bool := fun _ j => decide (0 < j)
def fMod : F2 := fI cMod fun i j => .int (i % j)
def cDiv : Int → Int → Bool := fun _ j => decide (0 < j) && decide (j < 1073741824)
def fDiv : F2 := fI cDiv fun i j => .int (i / j)
def cPow : Int → Int → Bool := fun i j => decide (0 ≤ j) && decide (j ≤ 1000000) && decide (i.natAbs < 2 ^ 64)
def fPow : F2 := fI cPow fun i j => .int (i ^ j.toNat)
def fLt : F2 := fI cY fun i j => .bool (decide (i < j))
def fLe : F2 := fI cY fun i j => .bool (decide (i ≤ j))
def fGt : F2 := fI cY fun i j => .bool (decide (i > j))
def fGe : F2 := fI cY fun i j => .bool (decide (i ≥ j))
theorem p_add : Prim2 K (rI0 fun i j => .int (i + j)) fAdd := prim_I0 fun _ _ _ _ => .int _
theorem p_sub : Prim2 K (rI0 fun i j => .int (i - j)) fSub := prim_I0 fun _ _ _ _ => .int _
theorem p_mul : Prim2 K (rI CMul fun i j => .int (i * j)) fMul := prim_I (fun i j h => by
  simp only [cMul, Bool.or_eq_true, Bool.and_eq_true, decide_eq_true_eq] at h; exact h) fun _ _ _ _ => .int _
theorem p_mod : Prim2 K (rI (fun _ j => 0 < j) fun i j => .int (i % j)) fMod := prim_I (fun i j h => by
  simpa [cMod] using h) fun _ _ _ _ => .int _
theorem p_div : Prim2 K (rI CDiv fun i j => .int (i / j)) fDiv := prim_I (fun i j h => by
  simp only [cDiv, Bool.and_eq_true, decide_eq_true_eq] at h; exact h) fun _ _ _ _ => .int _
theorem p_pow : Prim2 K (rI CPow fun i j => .int (i ^ j.toNat)) fPow := prim_I (fun i j h => by
  simp only [cPow, Bool.and_eq_true, decide_eq_true_eq] at h; exact ⟨h.1.1, h.1.2, h.2⟩) fun _ _ _ _ => .int _
theorem p_lt : Prim2 K (rI0 fun i j => .bl (decide (i < j))) fLt := prim_I0 fun _ _ _ _ => .bl _
theorem p_le : Prim2 K (rI0 fun i j => .bl (decide (i ≤ j))) fLe := prim_I0 fun _ _ _ _ => .bl _
theorem p_gt : Prim2 K (rI0 fun i j => .bl (decide (i > j))) fGt := prim_I0 fun _ _ _ _ => .bl _
theorem p_ge : Prim2 K (rI0 fun i j => .bl (decide (i ≥ j))) fGe := prim_I0 fun _ _ _ _ => .bl _
/-! ### == and != of any data -/
def fEq : F2 := fun va vb fm => match peek va fm, peek vb fm with
  | some d, some e => if SeqAt.shaped d && SeqAt.shaped e then some (.dat (.bool (PyData.eqv d e)), fm) else none
  | _, _ => none
def fNe : F2 := fun va vb fm => match peek va fm, peek vb fm with
  | some d, some e => if SeqAt.shaped d && SeqAt.shaped e then some (.dat (.bool (!PyData.eqv d e)), fm) else none
  | _, _ => none
theorem p_eq : Prim2 K (rEqD K) fEq := by
  intro F H σ fm fm' va vb x y v R Va Vb h Q q
  unfold fEq at h
  split at h
  · rename_i d e h1 h2
    split at h
    · rename_i hc
      cases h
      simp only [Bool.and_eq_true] at hc
      exact ⟨d, e, (peek_dp R Va h1).dp, (peek_dp R Vb h2).dp, hc.1, hc.2, q _ F H (Aft.refl R) (.bl _) VNew.dat⟩
    · cases h
  · cases h
theorem p_ne : Prim2 K (rNeD K) fNe := by
  intro F H σ fm fm' va vb x y v R Va Vb h Q q
  unfold fNe at h
  split at h
  · rename_i d e h1 h2
    split at h
    · rename_i hc
      cases h
      simp only [Bool.and_eq_true] at hc
      exact ⟨d, e, (peek_dp R Va h1).dp, (peek_dp R Vb h2).dp, hc.1, hc.2, q _ F H (Aft.refl R) (.bl _) VNew.dat⟩
    · cases h
  · cases h
/-! ### is None, is True -/
def isNone : PyData → Bool
  | .none => true
  | _ => false
theorem isNone_dp {F : Hp} {x : V} {d : PyData} (h : Dq K F x d) : decide (x = V.non) = isNone d := by
  cases h <;> simp [isNone]
def fIsN : F2 := fun va vb fm => match peek va fm, peek vb fm with
  | some d, some .none => some (.dat (.bool (isNone d)), fm)
  | _, _ => none
def fNotN : F2 := fun va vb fm => match peek va fm, peek vb fm with
  | some d, some .none => some (.dat (.bool (!isNone d)), fm)
  | _, _ => none
theorem p_isN : Prim2 K (fun x y H Q => y = .non ∧ Q (.bl (decide (x = .non))) H) fIsN := by
  intro F H σ fm fm' va vb x y v R Va Vb h Q q
  unfold fIsN at h
  split at h
  · rename_i d h1 h2
    cases h
    refine ⟨peek_none R Vb h2, ?_⟩
    rw [isNone_dp (peek_dp R Va h1)]
    exact q _ F H (Aft.refl R) (.bl _) VNew.dat
  · cases h
theorem p_notN : Prim2 K (fun x y H Q => y = .non ∧ Q (.bl (!decide (x = .non))) H) fNotN := by
  intro F H σ fm fm' va vb x y v R Va Vb h Q q
  unfold fNotN at h
  split at h
  · rename_i d h1 h2
    cases h
    refine ⟨peek_none R Vb h2, ?_⟩
    rw [isNone_dp (peek_dp R Va h1)]
    exact q _ F H (Aft.refl R) (.bl _) VNew.dat
  · cases h
def fIsB : F2 := fun va vb fm => match peek va fm, peek vb fm with
  | some (.bool a), some (.bool b) => some (.dat (.bool (decide (a = b))), fm)
  | _, _ => none
theorem p_isB : Prim2 K rIsB fIsB := by
  intro F H σ fm fm' va vb x y v R Va Vb h Q q
  unfold fIsB at h
  split at h
  · rename_i a b h1 h2
    cases h
    exact ⟨a, b, peek_bool R Va h1, peek_bool R Vb h2, q _ F H (Aft.refl R) (.bl _) VNew.dat⟩
  · cases h
/-! ### items -/
theorem dpAll_atI {F : Hp} {vs : List V} {ds : List PyData} {i : Int} {d : PyData} (r : DqAll K F vs ds) (h : atI ds i = some d) : ∃ v, atI vs i = some v ∧ Dq K F v d := by
  unfold atI at h ⊢
  rw [dpAll_len r]
  cases e : ixN ds.length i with
  | none => rw [e] at h; cases h
  | some j =>
    rw [e] at h
    obtain ⟨v, h1, h2⟩ := dpAll_get r (show ds[j]? = some d from h)
    exact ⟨v, h1, h2⟩
def fIx : F2 := fun va vb fm => match peek va fm, peek vb fm with
  | some (.list ds), some (.int i) => (atI ds i).map fun d => (.dat d, fm)
  | some (.tuple ds), some (.int i) => (atI ds i).map fun d => (.dat d, fm)
  | _, _ => none
theorem p_ix : Prim2 K (rIx K) fIx := by
  intro F H σ fm fm' va vb x y v R Va Vb h Q q
  unfold fIx at h
  split at h
  · rename_i ds i h1 h2
    cases e : atI ds i with
    | none => rw [e] at h; cases h
    | some d =>
      rw [e] at h; cases h
      obtain ⟨a, vs, rfl, hs, r⟩ := peek_list R Va h1
      obtain ⟨z, h3, h4⟩ := dpAll_atI r e
      exact .inl ⟨a, vs, i, z, rfl, peek_int R Vb h2, hs, h3, q _ F H (Aft.refl R) h4 VNew.dat⟩
  · rename_i ds i h1 h2
    cases e : atI ds i with
    | none => rw [e] at h; cases h
    | some d =>
      rw [e] at h; cases h
      obtain ⟨a, vs, rfl, hs, r⟩ := peek_tup R Va h1
      obtain ⟨z, h3, h4⟩ := dpAll_atI r e
      exact .inr (.inl ⟨a, vs, i, z, rfl, peek_int R Vb h2, hs.1, h3, q _ F H (Aft.refl R) h4 VNew.dat⟩)
  · cases h
/-! ### lists and tuples joined -/
def rCatL (K : PySem.W.Frag) : R2 := fun x y H Q => ∃ l b xs zs, x = .ref l ∧ y = .ref b ∧ SqL K H l xs ∧ SqL K H b zs ∧ xs.length + zs.length ≤ sizeLine ∧ ∀ p, H p = none → Q (.ref p) (upd H p (.lst (xs ++ zs)))
end
section
variable {X : Cx}
theorem op_catL : OpR X (binaryOp .Add) (rCatL X.K) := by
  intro pins s σ H x y v u Q I rx ry h
  obtain ⟨l, b, xs, zs, rfl, rfl, hH, hB, hz, q⟩ := h
  cases rx
  cases ry
  obtain ⟨its, r, ⟨o, n, e, e1, e2, e3⟩, hl⟩ := I.list hH
  obtain ⟨its2, r2, ⟨o2, n2, f, f1, f2, f3⟩, hl2⟩ := I.list hB
  have h1 := r.length
  have h2 := r2.length
  obtain ⟨oc, od, odt, osl⟩ := o
  obtain ⟨oc2, od2, odt2, osl2⟩ := o2
  cases e1; cases e2; cases e3; cases f1; cases f2; cases f3
  refine PySem.concat_meets ⟨_, e, rfl⟩ ⟨_, f, rfl⟩ noFill_list_add seq_list_add PySem.F.slot_list_add PySem.F.entry_list_add (PySem.F.args_list_add_2 _ _) (PyProof.Rows.list_addW l b its.toArray its2.toArray n n2 _ _ osl osl2 (by rw [List.size_toArray, List.size_toArray]; omega)) ⟨e, f, ?_⟩
  have ea : its.toArray ++ its2.toArray = (its ++ its2).toArray := by simp
  rw [ea]
  exact ⟨.ref _, _, I.lnew (t' := s.toks) (r.append r2) (by rw [List.length_append]; omega), rfl, q _ I.fresh⟩
/-- tuples joined: the result is known to be plain -/
def rCatP (K : PySem.W.Frag) : R2 := fun x y H Q => ∃ a b xs ys, x = .ref a ∧ y = .ref b ∧ SqT K H a xs ∧ SqT K H b ys ∧ xs.length + ys.length ≤ sizeLine ∧
  (xs = [] → Q (.ref b) H) ∧ (xs ≠ [] → ys = [] → Q (.ref a) H) ∧ (xs ≠ [] → ys ≠ [] → rNewP (xs ++ ys) H Q)
theorem op_catP : OpR X (binaryOp .Add) (rCatP X.K) := by
  intro pins s σ H x y v u Q I rx ry h
  obtain ⟨a, b, xs, ys, rfl, rfl, ha, hb, hz, k0, k1, k2⟩ := h
  cases rx
  cases ry
  obtain ⟨ia, r1, t1, _⟩ := I.tuple ha
  obtain ⟨ib, r2, t2, _⟩ := I.tuple hb
  by_cases hx : xs = []
  · subst hx
    cases r1
    exact cat_tup0 t1 t2 ⟨.ref b, H, I, rfl, k0 rfl⟩
  · refine HT.cat_tup t1 t2 (fun z => hx (r1.nil_iff.mp z)) (fun z => ⟨.ref a, H, I, rfl, k1 hx (r2.nil_iff.mp z)⟩) (fun z => ?_) (by rw [← r1.length, ← r2.length]; exact hz)
    have hl : (xs ++ ys).length ≤ sizeLine := by rw [List.length_append]; exact hz
    exact ⟨.ref s.heap.objs.size, _, inv_newP (t' := s.toks) I (r1.append r2) hl rfl, rfl, k2 hx (fun w => z (r2.nil_iff.mpr w)) _ _ (I.hok.fresh (Nat.le_refl _)) rfl⟩
/-- tuple(xs) -/
theorem call_tupleP : CallR X (.type "tuple") (fun xs H Q => ∃ p ys, xs = [.ref p] ∧ ((SqL X.K H p ys ∧ rNewP ys H Q) ∨ (SqT X.K H p ys ∧ Q (.ref p) H))) := by
  intro pins s σ H xs us Q I r h
  obtain ⟨p, ys, rfl, h⟩ := h
  obtain ⟨u, rfl, rx⟩ := vals1 r
  cases rx
  rcases h with ⟨hq, q⟩ | ⟨hq, q⟩
  · obtain ⟨its, r', pl, hz⟩ := I.list hq
    have hlen := r'.length
    refine call_tuple_list pl.isList (fun h' kp => ?_) (by simp only [List.size_toArray] <;> omega)
    have J : Inv X pins σ H { s with heap := h' } := I.kept (t' := s.toks) kp
    exact ⟨.ref h'.objs.size, _, inv_newP (t' := s.toks) J r' hz rfl, rfl, q _ _ (J.hok.fresh (Nat.le_refl _)) rfl⟩
  · obtain ⟨its, r', pl, hz⟩ := I.tuple hq
    exact call_tuple_same pl ⟨.ref p, H, I, rfl, q⟩
/-- t[lo:hi] -/
def rSlP (K : PySem.W.Frag) : V → Option Int → Option Int → Hp → VK → Prop := fun x lo hi H Q => ∃ a xs, x = .ref a ∧ SqT K H a xs ∧
  (HT.sIx xs.length 0 lo = 0 ∧ HT.sIx xs.length xs.length hi = xs.length → Q (.ref a) H) ∧ (¬ (HT.sIx xs.length 0 lo = 0 ∧ HT.sIx xs.length xs.length hi = xs.length) → rNewP (cutV xs lo hi) H Q)
theorem sl_tupP : SlR X (rSlP X.K) := by
  intro pins s σ H x v vl vu lo hi sl Q I rx hs pl pu h
  obtain ⟨a, xs, rfl, hx, k1, k2⟩ := h
  cases rx
  obtain ⟨its, r, ht, hz⟩ := I.tuple hx
  have hlen : its.toArray.size = xs.length := by rw [List.size_toArray]; exact r.length.symm
  refine ⟨"tuple", _, PyProof.Rows.slot_tuple_getitem.lookup, ht.typeIs, ?_⟩
  by_cases hw : HT.sIx xs.length 0 lo = 0 ∧ HT.sIx xs.length xs.length hi = xs.length
  · exact getItem_tuple_whole ht hs pl pu (by rw [hlen]; exact hw) ⟨.ref a, H, I, rfl, k1 hw⟩
  · refine HT.getItem_tuple_cut ht hs pl pu (by rw [hlen]; exact hw) ?_ (by rw [hlen]; exact hz)
    rw [hlen]
    have rr := (r.drop (HT.sIx xs.length 0 lo)).take (HT.sIx xs.length xs.length hi - HT.sIx xs.length 0 lo)
    exact ⟨.ref s.heap.objs.size, _, inv_newP (t' := s.toks) I rr (Nat.le_trans (cutV_length xs lo hi) hz) rfl, rfl, k2 hw _ _ (I.hok.fresh (Nat.le_refl _)) rfl⟩
end
end Rf

namespace Rf
open PySem L2

section
variable {X : Cx} {K : PySem.W.Frag}
theorem opr_or {f : Value → Value → Sem Value} {r r' : R2} (h : OpR X f r) (h' : OpR X f r') : OpR X f (fun x y H Q => r x y H Q ∨ r' x y H Q) := by
  intro pins s σ H x y v u Q I rx ry q
  rcases q with q | q
  · exact h pins s σ H x y v u Q I rx ry q
  · exact h' pins s σ H x y v u Q I rx ry q
def b2n (b : Bool) : Int := if b = true then 1 else 0
def rBI (g : Int → Int → Int) : R2 := fun x y H Q => ∃ b i, x = .bl b ∧ y = .int i ∧ Q (.int (g (b2n b) i)) H
def rIB (g : Int → Int → Int) : R2 := fun x y H Q => ∃ i b, x = .int i ∧ y = .bl b ∧ Q (.int (g i (b2n b))) H
theorem op_addBI : OpR X (binaryOp .Add) (rBI (· + ·)) := by
  intro pins s σ H x y v u Q I rx ry h
  obtain ⟨b, i, rfl, rfl, q⟩ := h
  obtain ⟨t, rfl⟩ := ry
  cases rx
  exact PySem.IntBool.add_bool_int ⟨.int _, H, I.tok _, ⟨_, rfl⟩, q⟩
theorem op_subBI : OpR X (binaryOp .Sub) (rBI (· - ·)) := by
  intro pins s σ H x y v u Q I rx ry h
  obtain ⟨b, i, rfl, rfl, q⟩ := h
  obtain ⟨t, rfl⟩ := ry
  cases rx
  exact PySem.IntBool.sub_bool_int ⟨.int _, H, I.tok _, ⟨_, rfl⟩, q⟩
theorem op_subIB : OpR X (binaryOp .Sub) (rIB (· - ·)) := by
  intro pins s σ H x y v u Q I rx ry h
  obtain ⟨b, i, rfl, rfl, q⟩ := h
  obtain ⟨t, rfl⟩ := rx
  cases ry
  exact PySem.IntBool.sub_int_bool ⟨.int _, H, I.tok _, ⟨_, rfl⟩, q⟩
/-! ### + -/
def rAddX (K : PySem.W.Frag) : R2 := fun x y H Q => rI0 (fun i j => .int (i + j)) x y H Q ∨ (rCatL K x y H Q ∨ (rCatP K x y H Q ∨ rBI (· + ·) x y H Q))
theorem op_addX : OpR X (binaryOp .Add) (rAddX X.K) := opr_or op_add (opr_or op_catL (opr_or op_catP op_addBI))
def fAddX : F2 := fun va vb fm => match peek va fm, peek vb fm with
  | some (.int i), some (.int j) => some (.dat (.int (i + j)), fm)
  | some (.list as), some (.list bs) => if as.length + bs.length ≤ sizeLine then some (.fre (.lst (as ++ bs)), fm) else none
  | some (.tuple as), some (.tuple bs) => if as.length + bs.length ≤ sizeLine then some (.dat (.tuple (as ++ bs)), fm) else none
  | some (.bool b), some (.int j) => some (.dat (.int (b2n b + j)), fm)
  | _, _ => none
theorem p_addX : Prim2 K (rAddX K) fAddX := by
  intro F H σ fm fm' va vb x y v R Va Vb h Q q
  unfold fAddX at h
  split at h
  · rename_i i j h1 h2
    cases h
    exact .inl ⟨i, j, peek_int R Va h1, peek_int R Vb h2, q _ F H (Aft.refl R) (.int _) VNew.dat⟩
  · rename_i as bs h1 h2
    split at h
    · rename_i hl
      cases h
      obtain ⟨a, xs, rfl, s1, r1⟩ := peek_list R Va h1
      obtain ⟨b, ys, rfl, s2, r2⟩ := peek_list R Vb h2
      refine .inr (.inl ⟨a, b, xs, ys, rfl, rfl, s1, s2, by rw [dpAll_len r1, dpAll_len r2]; exact hl, fun p hp => ?_⟩)
      exact q _ F _ (Aft.lay R hp) (Aft.newL R hp (dpAll_app r1 r2)) (VNew.ref hp)
    · cases h
  · rename_i as bs h1 h2
    split at h
    · rename_i hl
      cases h
      have p1 := peek_flat R Va h1 (fun _ e => nomatch e)
      have p2 := peek_flat R Vb h2 (fun _ e => nomatch e)
      obtain ⟨a, xs, rfl, s1, r1⟩ := peek_tup R Va h1
      obtain ⟨b, ys, rfl, s2, r2⟩ := peek_tup R Vb h2
      refine .inr (.inr (.inl ⟨a, b, xs, ys, rfl, rfl, s1.1, s2.1, by rw [dpAll_len r1, dpAll_len r2]; exact hl, fun e => ?_, fun e e2 => ?_, fun _ _ p o hp hd => ?_⟩))
      · subst e
        cases r1
        exact q _ F H (Aft.refl R) p2 VNew.dat
      · subst e2
        cases r2
        rw [List.append_nil] at q
        exact q _ F H (Aft.refl R) p1 VNew.dat
      · exact q _ _ _ (Aft.layF R hp) (Aft.newT R hp hd (dpAll_app r1 r2)) VNew.dat
    · cases h
  · rename_i b j h1 h2
    cases h
    exact .inr (.inr (.inr ⟨b, j, peek_bool R Va h1, peek_int R Vb h2, q _ F H (Aft.refl R) (.int _) VNew.dat⟩))
  · cases h
/-! ### - -/
def rSubX : R2 := fun x y H Q => rI0 (fun i j => .int (i - j)) x y H Q ∨ (rBI (· - ·) x y H Q ∨ rIB (· - ·) x y H Q)
theorem op_subX : OpR X (binaryOp .Sub) rSubX := opr_or op_sub (opr_or op_subBI op_subIB)
def fSubX : F2 := fun va vb fm => match peek va fm, peek vb fm with
  | some (.int i), some (.int j) => some (.dat (.int (i - j)), fm)
  | some (.bool b), some (.int j) => some (.dat (.int (b2n b - j)), fm)
  | some (.int i), some (.bool b) => some (.dat (.int (i - b2n b)), fm)
  | _, _ => none
theorem p_subX : Prim2 K rSubX fSubX := by
  intro F H σ fm fm' va vb x y v R Va Vb h Q q
  unfold fSubX at h
  split at h
  · rename_i i j h1 h2
    cases h
    exact .inl ⟨i, j, peek_int R Va h1, peek_int R Vb h2, q _ F H (Aft.refl R) (.int _) VNew.dat⟩
  · rename_i b j h1 h2
    cases h
    exact .inr (.inl ⟨b, j, peek_bool R Va h1, peek_int R Vb h2, q _ F H (Aft.refl R) (.int _) VNew.dat⟩)
  · rename_i i b h1 h2
    cases h
    exact .inr (.inr ⟨i, b, peek_int R Va h1, peek_bool R Vb h2, q _ F H (Aft.refl R) (.int _) VNew.dat⟩)
  · cases h
/-! ### * -/
def repD (k : Int) (ds : List PyData) : List PyData := (List.replicate k.toNat ds).flatten
theorem dpAll_rep {F : Hp} {vs : List V} {ds : List PyData} (r : DqAll K F vs ds) : ∀ n : Nat, DqAll K F (List.replicate n vs).flatten (List.replicate n ds).flatten
  | 0 => .nil
  | n + 1 => by
    rw [List.replicate_succ, List.replicate_succ, List.flatten_cons, List.flatten_cons]
    exact dpAll_app r (dpAll_rep r n)
def rMulX (K : PySem.W.Frag) : R2 := fun x y H Q => rI CMul (fun i j => .int (i * j)) x y H Q ∨ rRep x y H Q
theorem op_mulX' : OpR X (binaryOp .Mult) (rMulX X.K) := opr_or op_mul op_rep
def fMulL (k : Int) (va : SV) (fm : Fm) : Option (SV × Fm) := match va with
  | .fre (.lst ds) => if ds.length * k.toNat ≤ sizeLine ∧ -(2 ^ 63) ≤ k ∧ k < 2 ^ 63 then some (.fre (.lst (repD k ds)), fm) else none
  | _ => none
def fMulX : F2 := fun va vb fm => match peek va fm, peek vb fm with
  | some (.int i), some (.int j) => if cMul i j then some (.dat (.int (i * j)), fm) else none
  | some (.list _), some (.int k) => fMulL k va fm
  | _, _ => none
theorem p_mulX : Prim2 K (rMulX K) fMulX := by
  intro F H σ fm fm' va vb x y v R Va Vb h Q q
  unfold fMulX at h
  split at h
  · rename_i i j h1 h2
    split at h
    · rename_i hc
      cases h
      refine .inl ⟨i, j, peek_int R Va h1, peek_int R Vb h2, ?_, q _ F H (Aft.refl R) (.int _) VNew.dat⟩
      simp only [cMul, Bool.or_eq_true, Bool.and_eq_true, decide_eq_true_eq] at hc; exact hc
    · cases h
  · rename_i es k h1 h2
    unfold fMulL at h
    split at h
    · rename_i ds
      split at h
      · rename_i hc
        cases h
        obtain ⟨p, rfl, hf, ⟨vs, hp, r⟩, hl⟩ := Va
        refine .inr ⟨p, k, vs, rfl, peek_int R Vb h2, hp, hc.2.1, hc.2.2, by rw [dpAll_len r]; exact hc.1, fun a ha => ?_⟩
        exact q _ F _ (Aft.lay R ha) (Aft.newL R ha (dpAll_rep r _)) (VNew.ref ha)
      · cases h
    · cases h
  · cases h
/-! ### in, not in: flat items -/
def flatD : PyData → Bool
  | .none => true
  | .bool _ => true
  | .int _ => true
  | .str _ => true
  | _ => false
end
/-! ### one value -/
abbrev F1 := SV → Fm → Option (SV × Fm)
def m1 (f : F1) (ma : ME) : ME := fun fm => match ma fm with
  | some (v, fm1) => f v fm1
  | none => none
def Prim1 (K : PySem.W.Frag) (r : V → Hp → VK → Prop) (f : F1) : Prop := ∀ (F H : Hp) (σ : L2.St) (fm fm' : Fm) (va : SV) (x : V) (v : SV), Rel K F H σ fm → VRel K F H σ fm va x → f va fm = some (v, fm') →
  ∀ Q : VK, (∀ z F' H', Aft K σ F H fm F' H' fm' → VRel K F' H' σ fm' v z → VNew H v z → Q z H') → r x H Q
section
variable {X : Cx} {K : PySem.W.Frag} {a : Expr} {pos : Pos}
theorem m1_inv {f : F1} {ma : ME} {fm fm' : Fm} {v : SV} (h : m1 f ma fm = some (v, fm')) : ∃ va fm1, ma fm = some (va, fm1) ∧ f va fm1 = some (v, fm') := by
  unfold m1 at h
  split at h
  · rename_i va fm1 h1
    exact ⟨va, fm1, h1, h⟩
  · cases h
theorem tE_1 {r : V → Hp → VK → Prop} {f : F1} {ma : ME} (P : Prim1 K r f) {σ : L2.St} {H : Hp} {Q : VK} (h : tE K (m1 f ma) σ H Q) : tE K ma σ H fun x H1 => r x H1 Q := by
  obtain ⟨F, fm, v, fm', R, em, q⟩ := h
  obtain ⟨va, fm1, e1, e2⟩ := m1_inv em
  refine ⟨F, fm, va, fm1, R, e1, fun x F1 H1 A1 V1 N1 => P F1 H1 σ fm1 fm' va x v A1.rel V1 e2 Q fun z F2 H2 A2 V2 N2 => ?_⟩
  exact q z F2 H2 (A1.trans A2) V2 (A1.new N2)
theorem se_un {op : UnaryOp} {r : V → Hp → VK → Prop} {f : F1} {ma : ME} (ho : UnR X (unaryOp op) r) (P : Prim1 X.K r f) (ha : SE X a ma) : SE X (.UnaryOp op a pos) (m1 f ma) :=
  pe_le (pe_un ho ha) fun σ H Q h => tE_1 P h
def fNeg : F1 := fun va fm => match peek va fm with
  | some (.int i) => some (.dat (.int (-i)), fm)
  | _ => none
theorem p_neg : Prim1 K (rU fun i => .int (-i)) fNeg := by
  intro F H σ fm fm' va x v R Va h Q q
  unfold fNeg at h
  split at h
  · rename_i i h1
    cases h
    exact ⟨i, peek_int R Va h1, q _ F H (Aft.refl R) (.int _) VNew.dat⟩
  · cases h
/-! ### calls of built-ins, by values -/
abbrev FA := List SV → Fm → Option (SV × Fm)
def mB1 (f : FA) (ma : MA) : ME := fun fm => match ma fm with
  | some (vs, fm1) => f vs fm1
  | none => none
def PrimA (K : PySem.W.Frag) (r : List V → Hp → VK → Prop) (f : FA) : Prop := ∀ (F H : Hp) (σ : L2.St) (fm fm' : Fm) (vs : List SV) (xs : List V) (v : SV), Rel K F H σ fm → VsRel K F H σ fm vs xs → f vs fm = some (v, fm') →
  ∀ Q : VK, (∀ z F' H', Aft K σ F H fm F' H' fm' → VRel K F' H' σ fm' v z → VNew H v z → Q z H') → r xs H Q
theorem tE_A {r : List V → Hp → VK → Prop} {f : FA} {ma : MA} (P : PrimA K r f) {σ : L2.St} {H : Hp} {Q : VK} (h : tE K (mB1 f ma) σ H Q) : tCB r (tA K ma) σ H Q := by
  obtain ⟨F, fm, v, fm', R, em, q⟩ := h
  unfold mB1 at em
  split at em
  · rename_i vs fm1 e1
    refine ⟨F, fm, vs, fm1, R, e1, fun xs F1 H1 A1 V1 N1 => P F1 H1 σ fm1 fm' vs xs v A1.rel V1 em Q fun z F2 H2 A2 V2 N2 => ?_⟩
    exact q z F2 H2 (A1.trans A2) V2 (A1.new N2)
  · cases em
variable {e : Expr} {es : List Expr} {x : Str} {p : Pos} {id T : String}
theorem se_callB {r : List V → Hp → VK → Prop} {f : FA} {ma : MA} (hc : CallR X (.builtin id) r) (P : PrimA X.K r f) (hg : Gl X x) (hm : X.mg x = none) (hv : bootBuiltins x = some (.builtin id)) (ha : SA X (e :: es) ma)
    (hn : x ≠ "__name__" := by decide) (hdb : (x == ("__debug__" : Str)) = false := by decide) (he : starEach (e :: es) X.env = (false, eval e X.env) :: starEach es X.env := by rfl) (hpl : (backTo pos (starEach es X.env)).any (·.1) = false := by rfl) :
    SE X (.Call (.Name x p) (e :: es) [] pos) (mB1 f ma) :=
  pe_le (pe_callB hc hg hm hv ha hn hdb he hpl) fun σ H Q h => tE_A P h
theorem se_callTy {r : List V → Hp → VK → Prop} {f : FA} {ma : MA} (hc : CallR X (.type T) r) (P : PrimA X.K r f) (hg : Gl X x) (hm : X.mg x = none) (hv : bootBuiltins x = some (.type T)) (ha : SA X (e :: es) ma)
    (hn : x ≠ "__name__" := by decide) (hdb : (x == ("__debug__" : Str)) = false := by decide) (he : starEach (e :: es) X.env = (false, eval e X.env) :: starEach es X.env := by rfl) (hpl : (backTo pos (starEach es X.env)).any (·.1) = false := by rfl) :
    SE X (.Call (.Name x p) (e :: es) [] pos) (mB1 f ma) :=
  pe_le (pe_callTy hc hg hm hv ha hn hdb he hpl) fun σ H Q h => tE_A P h
theorem callr_or {f : Value} {r r' : List V → Hp → VK → Prop} (h : CallR X f r) (h' : CallR X f r') : CallR X f (fun xs H Q => r xs H Q ∨ r' xs H Q) := by
  intro pins s σ H xs us Q I rx q
  rcases q with q | q
  · exact h pins s σ H xs us Q I rx q
  · exact h' pins s σ H xs us Q I rx q
/-! len, abs, int, min, max, list, tuple, str -/
def fLen : FA := fun vs fm => match vs with
  | [v] => match peek v fm with
    | some (.list ds) => some (.dat (.int ds.length), fm)
    | some (.tuple ds) => some (.dat (.int ds.length), fm)
    | _ => none
  | _ => none
theorem p_len : PrimA K (fun xs H Q => ∃ p ys, xs = [.ref p] ∧ (SqL K H p ys ∨ SqT K H p ys) ∧ Q (.int ys.length) H) fLen := by
  intro F H σ fm fm' vs xs v R Vs h Q q
  unfold fLen at h
  split at h
  · rename_i w
    obtain ⟨y, rfl, V⟩ := vsrel1 Vs
    split at h
    · rename_i ds h1
      cases h
      obtain ⟨a, ys, rfl, s1, r1⟩ := peek_list R V h1
      refine ⟨a, ys, rfl, .inl s1, ?_⟩
      rw [dpAll_len r1]
      exact q _ F H (Aft.refl R) (.int _) VNew.dat
    · rename_i ds h1
      cases h
      obtain ⟨a, ys, rfl, s1, r1⟩ := peek_tup R V h1
      refine ⟨a, ys, rfl, .inr s1.1, ?_⟩
      rw [dpAll_len r1]
      exact q _ F H (Aft.refl R) (.int _) VNew.dat
    · cases h
  · cases h
def fAbs : FA := fun vs fm => match vs with
  | [v] => match peek v fm with
    | some (.int i) => some (.dat (.int (if i < 0 then -i else i)), fm)
    | _ => none
  | _ => none
theorem p_abs : PrimA K (fun xs H Q => ∃ i, xs = [.int i] ∧ Q (.int (if i < 0 then -i else i)) H) fAbs := by
  intro F H σ fm fm' vs xs v R Vs h Q q
  unfold fAbs at h
  split at h
  · obtain ⟨y, rfl, V⟩ := vsrel1 Vs
    split at h
    · rename_i i h1
      cases h
      cases peek_int R V h1
      exact ⟨i, rfl, q _ F H (Aft.refl R) (.int _) VNew.dat⟩
    · cases h
  · cases h
def fInt : FA := fun vs fm => match vs with
  | [v] => match peek v fm with
    | some (.int i) => some (.dat (.int i), fm)
    | some (.bool b) => some (.dat (.int (if b then 1 else 0)), fm)
    | _ => none
  | _ => none
theorem p_int : PrimA K (fun xs H Q => (∃ i, xs = [.int i] ∧ Q (.int i) H) ∨ ∃ k, xs = [.bl k] ∧ Q (.int (if k then 1 else 0)) H) fInt := by
  intro F H σ fm fm' vs xs v R Vs h Q q
  unfold fInt at h
  split at h
  · obtain ⟨y, rfl, V⟩ := vsrel1 Vs
    split at h
    · rename_i i h1
      cases h
      cases peek_int R V h1
      exact .inl ⟨i, rfl, q _ F H (Aft.refl R) (.int _) VNew.dat⟩
    · rename_i i h1
      cases h
      cases peek_bool R V h1
      exact .inr ⟨i, rfl, q _ F H (Aft.refl R) (.int _) VNew.dat⟩
    · cases h
  · cases h
def fMin2 : FA := fun vs fm => match vs with
  | [v, w] => match peek v fm, peek w fm with
    | some (.int i), some (.int j) => some (.dat (.int (if j < i then j else i)), fm)
    | _, _ => none
  | _ => none
theorem p_min2 : PrimA K (fun xs H Q => ∃ i j, xs = [.int i, .int j] ∧ Q (.int (if j < i then j else i)) H) fMin2 := by
  intro F H σ fm fm' vs xs v R Vs h Q q
  unfold fMin2 at h
  split at h
  · obtain ⟨y, z, rfl, V, W⟩ := vsrel2 Vs
    split at h
    · rename_i i j h1 h2
      cases h
      cases peek_int R V h1
      cases peek_int R W h2
      exact ⟨i, j, rfl, q _ F H (Aft.refl R) (.int _) VNew.dat⟩
    · cases h
  · cases h
def fMax2 : FA := fun vs fm => match vs with
  | [v, w] => match peek v fm, peek w fm with
    | some (.int i), some (.int j) => some (.dat (.int (if j > i then j else i)), fm)
    | _, _ => none
  | _ => none
theorem p_max2 : PrimA K (fun xs H Q => ∃ i j, xs = [.int i, .int j] ∧ Q (.int (if j > i then j else i)) H) fMax2 := by
  intro F H σ fm fm' vs xs v R Vs h Q q
  unfold fMax2 at h
  split at h
  · obtain ⟨y, z, rfl, V, W⟩ := vsrel2 Vs
    split at h
    · rename_i i j h1 h2
      cases h
      cases peek_int R V h1
      cases peek_int R W h2
      exact ⟨i, j, rfl, q _ F H (Aft.refl R) (.int _) VNew.dat⟩
    · cases h
  · cases h
def fList : FA := fun vs fm => match vs with
  | [v] => match peek v fm with
    | some (.list ds) => some (.fre (.lst ds), fm)
    | some (.tuple ds) => some (.fre (.lst ds), fm)
    | _ => none
  | _ => none
theorem p_list : PrimA K (fun xs H Q => ∃ p ys, xs = [.ref p] ∧ (SqL K H p ys ∨ SqT K H p ys) ∧ ∀ l, H l = none → Q (.ref l) (upd H l (.lst ys))) fList := by
  intro F H σ fm fm' vs xs v R Vs h Q q
  unfold fList at h
  split at h
  · obtain ⟨y, rfl, V⟩ := vsrel1 Vs
    split at h
    · rename_i ds h1
      cases h
      obtain ⟨a, ys, rfl, s1, r1⟩ := peek_list R V h1
      exact ⟨a, ys, rfl, .inl s1, fun l hl => q _ F _ (Aft.lay R hl) (Aft.newL R hl r1) (VNew.ref hl)⟩
    · rename_i ds h1
      cases h
      obtain ⟨a, ys, rfl, s1, r1⟩ := peek_tup R V h1
      exact ⟨a, ys, rfl, .inr s1.1, fun l hl => q _ F _ (Aft.lay R hl) (Aft.newL R hl r1) (VNew.ref hl)⟩
    · cases h
  · cases h
def fTuple : FA := fun vs fm => match vs with
  | [v] => match peek v fm with
    | some (.list ds) => some (.dat (.tuple ds), fm)
    | some (.tuple ds) => some (.dat (.tuple ds), fm)
    | _ => none
  | _ => none
theorem p_tuple : PrimA K (fun xs H Q => ∃ p ys, xs = [.ref p] ∧ ((SqL K H p ys ∧ rNewP ys H Q) ∨ (SqT K H p ys ∧ Q (.ref p) H))) fTuple := by
  intro F H σ fm fm' vs xs v R Vs h Q q
  unfold fTuple at h
  split at h
  · obtain ⟨y, rfl, V⟩ := vsrel1 Vs
    split at h
    · rename_i ds h1
      cases h
      obtain ⟨a, ys, rfl, s1, r1⟩ := peek_list R V h1
      exact ⟨a, ys, rfl, .inl ⟨s1, fun l o hl hd => q _ _ _ (Aft.layF R hl) (Aft.newT R hl hd r1) VNew.dat⟩⟩
    · rename_i ds h1
      cases h
      have p1 := peek_flat R V h1 (fun _ e => nomatch e)
      obtain ⟨a, ys, rfl, s1, r1⟩ := peek_tup R V h1
      exact ⟨a, ys, rfl, .inr ⟨s1.1, q _ F H (Aft.refl R) p1 VNew.dat⟩⟩
    · cases h
  · cases h
def rStrX : List V → Hp → VK → Prop := fun xs H Q => (∃ i, xs = [.int i] ∧ i.natAbs.log2 < 1920 ∧ Q (.str (toString i)) H) ∨ ∃ b, xs = [.bl b] ∧ Q (.str (if b then "True" else "False")) H
theorem call_strX : CallR X (.type "str") rStrX := by
  intro pins s σ H xs us Q I r h
  rcases h with h | ⟨b, rfl, q⟩
  · exact call_str_int pins s σ H xs us Q I r h
  · cases r with
    | cons r1 r2 =>
      cases r2
      cases r1
      exact PySem.P.str_of_bool ⟨.str _, H, I.tok _, ⟨_, rfl⟩, q⟩
def fStr : FA := fun vs fm => match vs with
  | [v] => match peek v fm with
    | some (.int i) => if i.natAbs.log2 < 1920 then some (.dat (.str (toString i)), fm) else none
    | some (.bool b) => some (.dat (.str (if b then "True" else "False")), fm)
    | _ => none
  | _ => none
theorem p_str : PrimA K rStrX fStr := by
  intro F H σ fm fm' vs xs v R Vs h Q q
  unfold fStr at h
  split at h
  · obtain ⟨y, rfl, V⟩ := vsrel1 Vs
    split at h
    · rename_i i h1
      split at h
      · rename_i hz
        cases h
        cases peek_int R V h1
        exact .inl ⟨i, rfl, hz, q _ F H (Aft.refl R) (.str _) VNew.dat⟩
      · cases h
    · rename_i b h1
      cases h
      cases peek_bool R V h1
      exact .inr ⟨b, rfl, q _ F H (Aft.refl R) (.str _) VNew.dat⟩
    · cases h
  · cases h
end
end Rf

/-! Rl1: new objects handed to a def, or stored under a name that is never changed, are frozen. -/
namespace Rf
open PySem L2
section
variable {K : PySem.W.Frag} {F F' F0 F1 H H' H0 H1 : Hp} {σ σ' : L2.St} {fm fm0 fm1 fm' : Fm} {x : V} {i : Nat} {ro : List Nat}
def fzV : SV → SV
  | .fre c => match c.dat with
    | some d => .dat d
    | none => .fre c
  | .dat d => .dat d
  | .bor i => .bor i
def mFz (m : MA) : MA := fun fm => match m fm with
  | some (vs, fm1) => some (vs.map fzV, fm1)
  | none => none
theorem VsRel.frzAt {p : Addr} {o : HO} (hf : F p = none) : ∀ {vs : List SV} {xs : List V}, VsRel K F H σ fm vs xs → (∀ (j : Nat) (c' : Cell), vs[j]? = some (.fre c') → xs[j]? ≠ some (.ref p)) → VsRel K (upd F p o) H σ fm vs xs
  | _, _, .nil, _ => .nil
  | _, _, .cons (v := v) (x := x) h r d, ne => by
    refine .cons ?_ (VsRel.frzAt hf r fun j c' e => by simpa using ne (j + 1) c' (by simpa using e)) d
    cases v with
    | dat d' => exact dp_mono (Same.upd' hf) h
    | bor i => exact h
    | fre c =>
      obtain ⟨q, rfl, hq, hc, hl⟩ := h
      have nq : q ≠ p := fun z => ne 0 c rfl (by subst z; rfl)
      exact ⟨q, rfl, by rw [upd_ne nq]; exact hq, hc.mono (Same.upd' hf) fun _ h => h, hl⟩
theorem fzAll_ok : ∀ {vs : List SV} {xs : List V} {F : Hp}, Aft K σ F0 H0 fm0 F H fm → VsRel K F H σ fm vs xs → VsNew H0 vs xs →
    ∃ F', Aft K σ F0 H0 fm0 F' H fm ∧ Same F F' ∧ (∀ a o, F' a = some o → F a = some o ∨ ∃ (j : Nat) (c : Cell), vs[j]? = some (.fre c) ∧ xs[j]? = some (.ref a)) ∧ VsRel K F' H σ fm (vs.map fzV) xs ∧ VsNew H0 (vs.map fzV) xs
  | _, _, F, A, .nil, _ => ⟨F, A, Same.refl _, fun _ _ h => .inl h, .nil, .nil⟩
  | _, _, F, A, .cons (v := v) (x := x) (vs := vs) (xs := xs) hv hr hd, .cons hn hnr => by
    have go : ∀ {F1 : Hp}, Aft K σ F0 H0 fm0 F1 H fm → Same F F1 → (∀ a o, F1 a = some o → F a = some o ∨ ∃ c, v = .fre c ∧ x = .ref a) → VsRel K F1 H σ fm vs xs → (∀ {F2 : Hp}, Same F1 F2 → (∀ a o, F2 a = some o → F1 a = some o ∨ ∃ (j : Nat) (c : Cell), vs[j]? = some (.fre c) ∧ xs[j]? = some (.ref a)) → VRel K F2 H σ fm (fzV v) x) → VNew H0 (fzV v) x → (∀ c, fzV v = .fre c → v = .fre c) →
        ∃ F', Aft K σ F0 H0 fm0 F' H fm ∧ Same F F' ∧ (∀ a o, F' a = some o → F a = some o ∨ ∃ (j : Nat) (c : Cell), (v :: vs)[j]? = some (.fre c) ∧ (x :: xs)[j]? = some (.ref a)) ∧ VsRel K F' H σ fm ((v :: vs).map fzV) (x :: xs) ∧ VsNew H0 ((v :: vs).map fzV) (x :: xs) := by
      intro F1 A1 s1 n1 V1 hx hnx hfz
      obtain ⟨F2, A2, s2, n2, V2, N2⟩ := fzAll_ok A1 V1 hnr
      refine ⟨F2, A2, s1.trans s2, fun a o q => ?_, .cons (hx s2 n2) V2 fun c ec j c' ej => ?_, .cons hnx N2⟩
      · rcases n2 a o q with z | ⟨j, c, h1, h2⟩
        · rcases n1 a o z with z | ⟨c, rfl, rfl⟩
          · exact .inl z
          · exact .inr ⟨0, c, rfl, rfl⟩
        · exact .inr ⟨j + 1, c, by simpa using h1, by simpa using h2⟩
      · rw [List.getElem?_map] at ej
        obtain ⟨w, hw, ew⟩ := Option.map_eq_some_iff.mp ej
        refine hd c (hfz c ec) j c' ?_
        cases w with
        | dat d => cases ew
        | bor i => cases ew
        | fre c2 =>
          rw [hw]
          simp only [fzV] at ew
          split at ew
          · cases ew
          · cases ew; rfl
    cases v with
    | dat d => exact go A (Same.refl _) (fun _ _ h => .inl h) hr (fun s2 _ => dp_mono s2 hv) trivial (fun c ec => by cases ec)
    | bor i => exact go A (Same.refl _) (fun _ _ h => .inl h) hr (fun s2 _ => hv) trivial (fun c ec => by cases ec)
    | fre c =>
      obtain ⟨p, rfl, hf, hc, hl⟩ := hv
      cases hdat : c.dat with
      | none =>
        refine go A (Same.refl _) (fun _ _ h => .inl h) hr (fun {F2} s2 n2 => ?_) (by simp only [fzV, hdat]; exact hn) (fun c' ec => by simpa only [fzV, hdat] using ec)
        simp only [fzV, hdat]
        refine ⟨p, rfl, ?_, hc.mono s2 fun _ h => h, hl⟩
        cases q : F2 p with
        | none => rfl
        | some u =>
          rcases n2 p u q with z | ⟨j, c', h1, h2⟩
          · rw [hf] at z; cases z
          · exact absurd h2 (hd c rfl j c' h1)
      | some d =>
        obtain ⟨o, ho⟩ := hc.some'
        have e : Same F (upd F p o) := Same.upd' hf
        have A1 : Aft K σ F0 H0 fm0 (upd F p o) H fm := ⟨⟨A.ext.same.trans e, A.ext.keep, fun a u q => by
          by_cases z : a = p
          · subst z; exact .inr (.inl (hn _ rfl))
          · rw [upd_ne z] at q; exact A.ext.new a u q, A.ext.live, A.ext.grow⟩, A.kp, A.rel.frz1 hf ho hl⟩
        refine go A1 e (fun a u q => ?_) (VsRel.frzAt hf hr fun j c' h => hd c rfl j c' h) (fun {F2} s2 _ => ?_) (by simp only [fzV, hdat]; trivial) (fun c' ec => by simp only [fzV, hdat] at ec; cases ec)
        · by_cases z : a = p
          · subst z; exact .inr ⟨c, rfl, rfl⟩
          · rw [upd_ne z] at q; exact .inl q
        · simp only [fzV, hdat]
          exact dp_mono s2 (hc.frz hf ho hdat)
theorem tA_fz {m : MA} {H : Hp} {Q : List V → Hp → Prop} (h : tA K (mFz m) σ H Q) : tA K m σ H Q := by
  obtain ⟨F, fm, ws, fm', R, em, q⟩ := h
  unfold mFz at em
  split at em
  · rename_i vs fm1 e1
    cases em
    refine ⟨F, fm, vs, _, R, e1, fun xs F1 H1 A V N => ?_⟩
    obtain ⟨F2, A2, _, _, V2, N2⟩ := fzAll_ok A V N
    exact q xs F2 H1 A2 V2 N2
  · cases em
/-! ### slots -/
def frzS (i : Nat) (fm : Fm) : Fm := match fm[i]? with
  | some (some (.own c)) => match c.dat with
    | some d => fm.set i (some (.dat d))
    | none => fm
  | _ => fm
def frzL : List Nat → Fm → Fm
  | [], fm => fm
  | i :: is, fm => frzL is (frzS i fm)
def mGh (is : List Nat) (m : MS) : MS := fun fm => match m fm with
  | some (.nx, fm1) => some (.nx, frzL is fm1)
  | r => r
theorem frzS_aft (A : AftS K ro σ F0 H0 fm0 σ' F H fm) : ∃ F', AftS K ro σ F0 H0 fm0 σ' F' H (frzS i fm) := by
  unfold frzS
  split
  · rename_i c hi
    split
    · rename_i d hd
      obtain ⟨p, hx, _, _⟩ := A.rel.own i c hi
      obtain ⟨F1, E1, _, _, R1, _, _, _⟩ := frz_ok (v := .bor i) (x := .ref p) (d := d) (fm' := fm.set i (some (.dat d))) A.ext A.rel ⟨hx, _, hi⟩ trivial (by simp only [frz, hi, hd])
      exact ⟨F1, E1, R1, A.pin⟩
    · exact ⟨F, A⟩
  · exact ⟨F, A⟩
theorem frzL_aft : ∀ {is : List Nat} {F : Hp} {fm : Fm}, AftS K ro σ F0 H0 fm0 σ' F H fm → ∃ F', AftS K ro σ F0 H0 fm0 σ' F' H (frzL is fm)
  | [], F, _, A => ⟨F, A⟩
  | i :: is, _, _, A => by
    obtain ⟨F1, A1⟩ := frzS_aft (i := i) A
    exact frzL_aft (is := is) A1
theorem tS_gh {is : List Nat} {m : MS} {D : Ends} {H : Hp} (h : tS K ro (mGh is m) D σ H) : tS K ro m D σ H := by
  obtain ⟨F, fm, fl, fm', R, em, q⟩ := h
  unfold mGh at em
  split at em
  · rename_i fm1 e1
    cases em
    refine ⟨F, fm, .nx, fm1, R, e1, fun σ' F' H' A => ?_⟩
    obtain ⟨F2, A2⟩ := frzL_aft (is := is) A
    exact q σ' F2 H' A2
  · exact ⟨F, fm, fl, fm', R, em, q⟩
end
theorem ss_gh {X : Cx} {ro : List Nat} {st : Stmt} {is : List Nat} {m : MS} (h : SS X ro st m) : SS X ro st (mGh is m) := ps_le h fun D σ H q => tS_gh q
end Rf


/-! Rg1: objects of slots written; methods; stores to items; chains of comparisons; slices. -/
namespace Rf
open PySem L2

section
variable {K : PySem.W.Frag} {F F' F1 H H' H1 : Hp} {σ σ' : L2.St} {fm fm' fm1 : Fm} {v : SV} {x : V}
/-- the object of slot i is written -/
theorem Aft.write {i : Nat} {p : Addr} {c : Cell} {vs : List V} {ds : List PyData} (R : Rel K F H σ fm) (hi : fm[i]? = some (some (.own c))) (hx : σ[i]? = some (some (.ref p))) (r : DqAll K F vs ds) :
    Aft K σ F H fm F (upd H p (.lst vs)) (fm.set i (some (.own (.lst ds)))) := by
  obtain ⟨p', hx', hf, hc⟩ := R.own i c hi
  rw [hx] at hx'; cases hx'
  have lp : Live σ fm p := ⟨i, c, hi, hx⟩
  have hil : i < fm.length := (List.getElem?_eq_some_iff.mp hi).1
  have back : ∀ {j : Nat} {c' : Cell}, (fm.set i (some (.own (.lst ds))))[j]? = some (some (.own c')) → ∃ c'', fm[j]? = some (some (.own c'')) := fun {j c'} h => by
    rcases get_set h with ⟨rfl, _, _⟩ | ⟨_, h⟩
    · exact ⟨c, hi⟩
    · exact ⟨c', h⟩
  refine ⟨⟨Same.refl _, fun a o hl h => ?_, fun a o h => .inl h, fun a h => .inl ?_, fun a h => ?_⟩, keeps_set, ⟨fun b u q => ?_, by rw [List.length_set]; exact R.len, fun j d h => ?_, fun j c' h => ?_, fun j k c' c'' q hne h1 h2 h3 => ?_⟩⟩
  · have ne : a ≠ p := fun z => hl (by rw [z]; exact lp)
    rw [upd_ne ne]; exact h
  · obtain ⟨j, c', h1, h2⟩ := h
    obtain ⟨c'', h3⟩ := back h1
    exact ⟨j, c'', h3, h2⟩
  · by_cases z : a = p
    · subst z; rw [upd_same] at h; cases h
    · rw [upd_ne z] at h; exact h
  · have ne : b ≠ p := fun z => by subst z; rw [hf] at q; cases q
    rw [upd_ne ne]; exact R.sub _ _ q
  · rcases get_set h with ⟨_, e, _⟩ | ⟨_, h⟩
    · cases e
    · exact R.dat j d h
  · rcases get_set h with ⟨rfl, e, _⟩ | ⟨ne, h⟩
    · cases e
      exact ⟨p, hx, hf, vs, upd_same, r⟩
    · obtain ⟨q, h1, h2, h3⟩ := R.own j c' h
      have nq : q ≠ p := fun w => by subst w; exact R.apart i j c c' q ne hi h hx h1
      exact ⟨q, h1, h2, h3.mono (Same.refl _) fun o ho => by rw [upd_ne nq]; exact ho⟩
  · obtain ⟨c1, e1⟩ := back h1
    obtain ⟨c2, e2⟩ := back h2
    exact R.apart j k c1 c2 q hne e1 e2 h3
/-- what stands in a slot that owns a list -/
theorem Rel.ownL {i : Nat} {ds : List PyData} (R : Rel K F H σ fm) (hi : fm[i]? = some (some (.own (.lst ds)))) (hx : σ[i]? = some (some x)) : ∃ p vs, x = .ref p ∧ σ[i]? = some (some (.ref p)) ∧ H p = some (.lst vs) ∧ DqAll K F vs ds := by
  obtain ⟨p, h1, h2, vs, h3, h4⟩ := R.own i _ hi
  have e : x = .ref p := by rw [hx] at h1; exact Option.some.inj (Option.some.inj h1)
  subst e
  exact ⟨p, vs, rfl, hx, h3, h4⟩
end

/-! ### methods of lists, tuples, texts -/
abbrev FM := SV → List SV → Fm → Option (SV × Fm)
def tyD (T : String) (o : SV) (fm : Fm) : Bool := match peek o fm with
  | some (.list _) => T == "list"
  | some (.tuple _) => T == "tuple"
  | some (.str _) => T == "str"
  | _ => false
def mMt (T : String) (f : FM) (mo : ME) (ma : MA) : ME := fun fm => match mo fm with
  | some (o, fm1) => if tyD T o fm1 then (match ma fm1 with
    | some (vs, fm2) => f o vs fm2
    | none => none) else none
  | none => none
/-- the arguments become data first -/
abbrev FZ := SV → List PyData → Fm → Option (SV × Fm)
def mMtZ (T : String) (f : FZ) (mo : ME) (ma : MA) : ME := fun fm => match mo fm with
  | some (o, fm1) => if tyD T o fm1 then (match ma fm1 with
    | some (vs, fm2) => match frzAll vs fm2 with
      | some (ds, fm3) => f o ds fm3
      | none => none
    | none => none) else none
  | none => none
def tyP (K : PySem.W.Frag) (T : String) (x : V) (H : Hp) : Prop := tyV K T x H ∨ (T = "tuple" ∧ ∃ a xs, x = .ref a ∧ SqP K H a xs)
theorem tyD_ok {K : PySem.W.Frag} {F H : Hp} {σ : L2.St} {fm : Fm} {o : SV} {x : V} {T : String} (R : Rel K F H σ fm) (V : VRel K F H σ fm o x) (h : tyD T o fm = true) : tyP K T x H := by
  unfold tyD at h
  split at h
  · rename_i ds e
    obtain ⟨a, vs, rfl, s, _⟩ := peek_list R V e
    exact .inl (.inl ⟨by simpa using h, vs, s⟩)
  · rename_i ds e
    obtain ⟨a, vs, rfl, s, _⟩ := peek_tup R V e
    exact .inr ⟨by simpa using h, a, vs, rfl, s⟩
  · rename_i z e
    have := peek_str R V e
    subst this
    exact .inl (by simpa [tyV] using h)
  · cases h
section
variable {X : Cx} {o e : Expr} {es : List Expr} {name : Str} {apos cpos : Pos} {T id : String} {r : V → List V → Hp → VK → Prop}
theorem tyP_is {pins : List (Addr × Obj)} {σ : L2.St} {H : Hp} {s : Shared} {x : V} {v : Value} (I : Inv X pins σ H s) (r : RelV x v) (ty : tyP X.K T x H) : s.TypeIs v T ∧ ∀ a, v = .ref a → ∃ ob, s.heap.get? a = some ob ∧ ob.dict = none := by
  rcases ty with ty | ⟨rfl, a, xs, rfl, h1, h2⟩
  · exact tyV_is I r ty
  · cases r
    obtain ⟨its, _, t, _⟩ := I.tuple h1
    refine ⟨t.typeIs, fun b e => ?_⟩
    cases e
    rcases h2 with ⟨ob, hf, hd⟩ | ⟨ob, hk, _, hd⟩
    · exact ⟨ob, (I.hok _ _ hf).1, hd⟩
    · exact ⟨ob, I.kIn _ ob hk, hd⟩
def tMtP (K : PySem.W.Frag) (T : String) (r : V → List V → Hp → VK → Prop) (to : TE) (t : TA) : TE := fun σ H Q => to σ H fun x H1 => tyP K T x H1 ∧ t σ H1 fun xs H2 => r x xs H2 Q
theorem pe_mtP {to : TE} {t : TA} (pa : PlainAttrs T) (slot : Slot T name id) (hty : typeOf (.builtin id) = pure (.type "method_descriptor")) (hm : MtR X id r) (ho : PE X o to) (ha : PA X (e :: es) t)
    (hbase : attributeBase o name X.env (eval o X.env) = eval o X.env)
    (hfew : ((backTo cpos (starEach (e :: es) X.env)).all (fun x => !x.1) && (backToKw cpos (keywordEach [] X.env)).all (fun x => x.1.isSome) && decide ((e :: es).length + ([] : List Keyword).length + (if ([] : List Keyword).isEmpty then 0 else 1) < 30)) = true)
    (hline : (apos.endLine == cpos.line) = true) (hs : starEach (e :: es) X.env = (false, eval e X.env) :: starEach es X.env) (hplain : (backTo cpos (starEach es X.env)).any (·.1) = false) :
    PE X (.Call (.Attribute o name apos) (e :: es) [] cpos) (tMtP X.K T r to t) := by
  refine ⟨fun pins s σ H Q I h => ?_⟩
  refine wpAny_Call_method_late hbase hfew hline rfl (thn (ho.run pins s σ H _ I h) fun v s1 got => ?_)
  obtain ⟨x, H1, I1, r1, ty, q1⟩ := got
  obtain ⟨t1, t2⟩ := tyP_is I1 r1 ty
  refine ⟨T, id, pa, slot, hty, t1, t2, ?_⟩
  have hA := ha.run cpos pins s1 σ H1 _ I1 q1
  rw [hs] at hA ⊢
  have hp : (((false, eval e X.env) :: backTo cpos (starEach es X.env)).any (·.1)) = false := by
    rw [List.any_cons, hplain]; rfl
  refine Calls.callWith_builtin hp (Calls.evalArgs_plain (thn hA fun us s2 got => ?_))
  obtain ⟨vs, H2, I2, r2, q2⟩ := got
  exact hm pins s2 σ H2 x vs v us Q I2 r1 r2 q2
def tMtP0 (K : PySem.W.Frag) (T : String) (r : V → List V → Hp → VK → Prop) (to : TE) : TE := fun σ H Q => to σ H fun x H1 => tyP K T x H1 ∧ r x [] H1 Q
theorem pe_mtP0 {to : TE} (pa : PlainAttrs T) (slot : Slot T name id) (hty : typeOf (.builtin id) = pure (.type "method_descriptor")) (hm : MtR X id r) (ho : PE X o to)
    (hbase : attributeBase o name X.env (eval o X.env) = eval o X.env) (hline : (apos.endLine == cpos.line) = true) : PE X (.Call (.Attribute o name apos) [] [] cpos) (tMtP0 X.K T r to) := by
  refine ⟨fun pins s σ H Q I h => ?_⟩
  refine wpAny_Call_method0_late hbase hline (thn (ho.run pins s σ H _ I h) fun v s1 got => ?_)
  obtain ⟨x, H1, I1, r1, ty, q1⟩ := got
  obtain ⟨t1, t2⟩ := tyP_is I1 r1 ty
  exact ⟨T, id, pa, slot, hty, t1, t2, Calls.callWith_builtin rfl (PySem.evalArgs_none (hm pins s1 σ H1 x [] v [] Q I1 r1 .nil q1))⟩
end
def PrimM (K : PySem.W.Frag) (r : V → List V → Hp → VK → Prop) (f : FM) : Prop := ∀ (F H : Hp) (σ : L2.St) (fm fm' : Fm) (o : SV) (vs : List SV) (x : V) (xs : List V) (v : SV), Rel K F H σ fm → VRel K F H σ fm o x → VsRel K F H σ fm vs xs → f o vs fm = some (v, fm') →
  ∀ Q : VK, (∀ z F' H', Aft K σ F H fm F' H' fm' → VRel K F' H' σ fm' v z → VNew H v z → Q z H') → r x xs H Q
def PrimZ (K : PySem.W.Frag) (r : V → List V → Hp → VK → Prop) (f : FZ) : Prop := ∀ (F H : Hp) (σ : L2.St) (fm fm' : Fm) (o : SV) (ds : List PyData) (x : V) (xs : List V) (v : SV), Rel K F H σ fm → VRel K F H σ fm o x → DqAll K F xs ds → f o ds fm = some (v, fm') →
  ∀ Q : VK, (∀ z F' H', Aft K σ F H fm F' H' fm' → VRel K F' H' σ fm' v z → VNew H v z → Q z H') → r x xs H Q
section
variable {K : PySem.W.Frag} {σ : L2.St} {H : Hp} {Q : VK} {T : String} {r : V → List V → Hp → VK → Prop} {mo : ME} {ma : MA}
theorem tE_mt {f : FM} (P : PrimM K r f) (h : tE K (mMt T f mo ma) σ H Q) : tMtP K T r (tE K mo) (tA K ma) σ H Q := by
  obtain ⟨F, fm, v, fm', R, em, q⟩ := h
  unfold mMt at em
  split at em
  · rename_i o fm1 e1
    split at em
    · rename_i ht
      split at em
      · rename_i vs fm2 e2
        refine ⟨F, fm, o, fm1, R, e1, fun x F1 H1 A1 V1 N1 => ⟨tyD_ok A1.rel V1 ht, F1, fm1, vs, fm2, A1.rel, e2, fun xs F2 H2 A2 V2 N2 => ?_⟩⟩
        exact P F2 H2 σ fm2 fm' o vs x xs v A2.rel (A2.val V1) V2 em Q fun z F3 H3 A3 V3 N3 => q z F3 H3 ((A1.trans A2).trans A3) V3 ((A1.trans A2).new N3)
      · cases em
    · cases em
  · cases em
theorem tE_mtZ {f : FZ} (P : PrimZ K r f) (h : tE K (mMtZ T f mo ma) σ H Q) : tMtP K T r (tE K mo) (tA K ma) σ H Q := by
  obtain ⟨F, fm, v, fm', R, em, q⟩ := h
  unfold mMtZ at em
  split at em
  · rename_i o fm1 e1
    split at em
    · rename_i ht
      split at em
      · rename_i vs fm2 e2
        split at em
        · rename_i ds fm3 e3
          refine ⟨F, fm, o, fm1, R, e1, fun x F1 H1 A1 V1 N1 => ⟨tyD_ok A1.rel V1 ht, F1, fm1, vs, fm2, A1.rel, e2, fun xs F2 H2 A2 V2 N2 => ?_⟩⟩
          obtain ⟨F3, A3, D3⟩ := aft_frzAll A2 V2 N2 e3
          exact P F3 H2 σ fm3 fm' o ds x xs v A3.rel (A3.val V1) D3 em Q fun z F4 H4 A4 V4 N4 => q z F4 H4 ((A1.trans A3).trans A4) V4 ((A1.trans A3).new N4)
        · cases em
      · cases em
    · cases em
  · cases em
end
/-! append, insert, extend, pop -/
def fAppend : FZ := fun o ds fm => match o, ds with
  | .bor i, [d] => match fm[i]? with
    | some (some (.own (.lst xs))) => if xs.length < sizeLine then some (.dat .none, fm.set i (some (.own (.lst (xs ++ [d]))))) else none
    | _ => none
  | _, _ => none
def fInsert : FZ := fun o ds fm => match o, ds with
  | .bor i, [.int k, d] => match fm[i]? with
    | some (some (.own (.lst xs))) => if xs.length < sizeLine ∧ 0 ≤ k ∧ k < 2 ^ 63 then some (.dat .none, fm.set i (some (.own (.lst (xs.take k.toNat ++ [d] ++ xs.drop k.toNat))))) else none
    | _ => none
  | _, _ => none
def fExtend : FM := fun o vs fm => match o, vs with
  | .bor i, [.fre (.lst es)] => match fm[i]? with
    | some (some (.own (.lst xs))) => if xs.length + es.length ≤ sizeLine then some (.dat .none, fm.set i (some (.own (.lst (xs ++ es))))) else none
    | _ => none
  | _, _ => none
def fPopAt : FM := fun o vs fm => match o, vs with
  | .bor i, [w] => match fm[i]?, peek w fm with
    | some (some (.own (.lst xs))), some (.int k) => if -(2 ^ 63) ≤ k ∧ k < 2 ^ 63 then (match seqIndex? k xs.length with
      | some j => match xs[j]? with
        | some d => some (.dat d, fm.set i (some (.own (.lst (xs.eraseIdx j)))))
        | none => none
      | none => none) else none
    | _, _ => none
  | _, _ => none
section
variable {K : PySem.W.Frag}
theorem p_append : PrimZ K rAppend fAppend := by
  intro F H σ fm fm' o ds x xs v R V D h Q q
  unfold fAppend at h
  split at h
  · rename_i i d
    obtain ⟨hx, _⟩ := V
    cases D with
    | cons D1 D2 =>
      cases D2
      split at h
      · rename_i es hi
        split at h
        · rename_i hl
          cases h
          obtain ⟨p, vs, rfl, hs, hp, r⟩ := R.ownL hi hx
          refine ⟨p, vs, _, rfl, rfl, hp, by rw [dpAll_len r]; exact hl, ?_⟩
          exact q _ F _ (Aft.write R hi hs (dpAll_app r (.cons D1 .nil))) .non VNew.dat
        · cases h
      · cases h
  · cases h
theorem p_extend : PrimM K rExtend fExtend := by
  intro F H σ fm fm' o ws x xs v R V D h Q q
  unfold fExtend at h
  split at h
  · rename_i i es
    obtain ⟨hx, _⟩ := V
    obtain ⟨y, rfl, Vy⟩ := vsrel1 D
    obtain ⟨b, rfl, hf, ⟨us, hb, rb⟩, hn⟩ := Vy
    split at h
    · rename_i es' hi
      split at h
      · rename_i hl
        cases h
        obtain ⟨p, vs, rfl, hs, hp, r⟩ := R.ownL hi hx
        refine ⟨p, b, vs, us, rfl, rfl, hp, hb, by rw [dpAll_len r, dpAll_len rb]; exact hl, ?_⟩
        exact q _ F _ (Aft.write R hi hs (dpAll_app r rb)) .non VNew.dat
      · cases h
    · cases h
  · cases h
theorem p_popAt : PrimM K rPopAt fPopAt := by
  intro F H σ fm fm' o ws x xs v R V D h Q q
  unfold fPopAt at h
  split at h
  · rename_i i w
    obtain ⟨hx, _⟩ := V
    obtain ⟨y, rfl, Vy⟩ := vsrel1 D
    split at h
    · rename_i es k hi hk
      split at h
      · rename_i hb
        split at h
        · rename_i j hj
          split at h
          · rename_i d hd
            cases h
            obtain ⟨p, vs, rfl, hs, hp, r⟩ := R.ownL hi hx
            obtain ⟨u, hu, Du⟩ := dpAll_get r hd
            refine ⟨p, vs, k, j, u, rfl, by rw [peek_int R Vy hk], hp, hb.1, hb.2, by rw [dpAll_len r]; exact hj, hu, ?_⟩
            exact q _ F _ (Aft.write R hi hs (dpAll_erase j r)) Du VNew.dat
          · cases h
        · cases h
      · cases h
    · cases h
  · cases h
end
end Rf

/-! Rg2: chains of comparisons, slices, stores to items, in, isinstance, built-ins over sequences. -/
namespace Rf
open PySem L2

/-! ### a < b < c -/
def mChain (f f' : F2) (ma mb mc : ME) : ME := fun fm => match ma fm with
  | some (va, fm1) => match mb fm1 with
    | some (vb, fm2) => match f va vb fm2 with
      | some (.dat (.bool true), fm3) => match mc fm3 with
        | some (vc, fm4) => f' vb vc fm4
        | none => none
      | some (.dat (.bool false), fm3) => some (.dat (.bool false), fm3)
      | _ => none
    | none => none
  | none => none
section
variable {K : PySem.W.Frag} {X : Cx} {a b c : Expr} {pos : Pos}
theorem tE_chain {r r' : R2} {f f' : F2} {ma mb mc : ME} (P : Prim2 K r f) (P' : Prim2 K r' f') {σ : L2.St} {H : Hp} {Q : VK} (h : tE K (mChain f f' ma mb mc) σ H Q) : tChain r r' (tE K ma) (tE K mb) (tE K mc) σ H Q := by
  obtain ⟨F, fm, v, fm', R, em, q⟩ := h
  unfold mChain at em
  split at em
  · rename_i va fm1 e1
    split at em
    · rename_i vb fm2 e2
      refine ⟨F, fm, va, fm1, R, e1, fun x F1 H1 A1 V1 N1 => ⟨F1, fm1, vb, fm2, A1.rel, e2, fun y F2 H2 A2 V2 N2 => ?_⟩⟩
      split at em
      · rename_i fm3 e3
        split at em
        · rename_i vc fm4 e4
          refine P F2 H2 σ fm2 fm3 va vb x y _ A2.rel (A2.val V1) V2 e3 _ fun z F3 H3 A3 V3 N3 => ?_
          cases (show Dq K F3 z (.bool true) from V3)
          refine ⟨true, rfl, iteT ⟨F3, fm3, vc, fm4, A3.rel, e4, fun w F4 H4 A4 V4 N4 => ?_⟩⟩
          have A := ((A1.trans A2).trans A3).trans A4
          exact P' F4 H4 σ fm4 fm' vb vc y w v A4.rel ((A3.trans A4).val V2) V4 em Q fun z F5 H5 A5 V5 N5 => q z F5 H5 (A.trans A5) V5 (A.new N5)
        · cases em
      · rename_i fm3 e3
        cases em
        refine P F2 H2 σ fm2 _ va vb x y _ A2.rel (A2.val V1) V2 e3 _ fun z F3 H3 A3 V3 N3 => ?_
        cases (show Dq K F3 z (.bool false) from V3)
        exact ⟨false, rfl, iteF (q _ F3 H3 ((A1.trans A2).trans A3) (.bl false) VNew.dat)⟩
      · cases em
    · cases em
  · cases em
theorem se_chain {op op' : CmpOp} {r r' : R2} {f f' : F2} {ma mb mc : ME} (ho : OpR X (compareOp op) r) (ho' : OpR X (compareOp op') r') (P : Prim2 X.K r f) (P' : Prim2 X.K r' f') (ha : SE X a ma) (hb : SE X b mb) (hc : SE X c mc) (hm : lastMarks [op, op'] [b, c] = false) :
    SE X (.Compare a [op, op'] [b, c] pos) (mChain f f' ma mb mc) := pe_le (pe_chain ho ho' ha hb hc hm) fun σ H Q h => tE_chain P P' h
theorem st_chain {op op' : CmpOp} {r r' : R2} {f f' : F2} {ma mb mc : ME} (ho : OpR X (compareOp op) r) (ho' : OpR X (compareOp op') r') (P : Prim2 X.K r f) (P' : Prim2 X.K r' f') (ha : SE X a ma) (hb : SE X b mb) (hc : SE X c mc) (hm : lastMarks [op, op'] [b, c] = false) :
    ST X (.Compare a [op, op'] [b, c] pos) (mB (mChain f f' ma mb mc)) := pt_le (pt_chain ho ho' ha hb hc hm) fun σ H Q h => by
  obtain ⟨F, fm, v, fm', R, em, q⟩ := tT_B h
  exact tE_chain P P' ⟨F, fm, v, fm', R, em, q⟩
end

/-! ### slices -/
def cutD (ds : List PyData) (lo hi : Option Int) : List PyData := (ds.drop (HT.sIx ds.length 0 lo)).take (HT.sIx ds.length ds.length hi - HT.sIx ds.length 0 lo)
abbrev MO := Fm → Option (Option Int × Fm)
def oNone : MO := fun fm => some (none, fm)
def oSome (m : ME) : MO := fun fm => match m fm with
  | some (.dat (.int i), fm1) => some (some i, fm1)
  | _ => none
def mSl (mo : ME) (ml mh : MO) : ME := fun fm => match mo fm with
  | some (v, fm1) => match ml fm1 with
    | some (lo, fm2) => match mh fm2 with
      | some (hi, fm3) => match peek v fm3 with
        | some (.list ds) => some (.fre (.lst (cutD ds lo hi)), fm3)
        | some (.tuple ds) => some (.dat (.tuple (cutD ds lo hi)), fm3)
        | _ => none
      | none => none
    | none => none
  | none => none
def tO (K : PySem.W.Frag) (m : MO) : TO := fun σ H Q => ∃ F fm i fm', Rel K F H σ fm ∧ m fm = some (i, fm') ∧ ∀ F' H', Aft K σ F H fm F' H' fm' → Q i H'
def SO (X : Cx) (e : Option Expr) (m : MO) : Prop := PO X e (tO X.K m)
section
variable {K : PySem.W.Frag} {X : Cx} {e : Expr} {lo hi : Option Expr} {pos p2 : Pos}
theorem so_none : SO X none oNone := ⟨fun pins s σ H Q I ⟨F, fm, i, fm', R, em, q⟩ => po_none.run pins s σ H Q I (by cases em; exact q F H (Aft.refl R))⟩
theorem so_some {m : ME} (h : SE X e m) : SO X (some e) (oSome m) := ⟨fun pins s σ H Q I ⟨F, fm, i, fm', R, em, q⟩ => (po_some h).run pins s σ H Q I (by
  unfold oSome at em
  split at em
  · rename_i j fm1 e1
    cases em
    refine ⟨F, fm, _, _, R, e1, fun x F1 H1 A1 V1 N1 => ?_⟩
    have := dpint V1
    subst this
    exact ⟨j, rfl, q F1 H1 A1⟩
  · cases em)⟩
theorem dpAll_cut {F : Hp} {vs : List V} {ds : List PyData} {lo hi : Option Int} (r : DqAll K F vs ds) : DqAll K F (cutV vs lo hi) (cutD ds lo hi) := by
  unfold cutV cutD
  rw [dpAll_len r]
  exact dpAll_take _ (dpAll_drop _ r)
theorem cutD_whole {ds : List PyData} {lo hi : Option Int} (h : HT.sIx ds.length 0 lo = 0 ∧ HT.sIx ds.length ds.length hi = ds.length) : cutD ds lo hi = ds := by
  unfold cutD
  rw [h.1, h.2, List.drop_zero, Nat.sub_zero, List.take_length]
theorem se_slice {mo : ME} {ml mh : MO} (he : SE X e mo) (hl : SO X lo ml) (hh : SO X hi mh) : SE X (.Subscript e (.Slice lo hi none p2) pos) (mSl mo ml mh) :=
  pe_le (pe_slice (SlR.or sl_list sl_tupP) he hl hh) fun σ H Q ⟨F, fm, v, fm', R, em, q⟩ => by
    unfold mSl at em
    split at em
    · rename_i w fm1 e1
      split at em
      · rename_i l fm2 e2
        split at em
        · rename_i u fm3 e3
          refine ⟨F, fm, w, fm1, R, e1, fun x F1 H1 A1 V1 N1 => ⟨F1, fm1, l, fm2, A1.rel, e2, fun F2 H2 A2 => ⟨F2, fm2, u, fm3, A2.rel, e3, fun F3 H3 A3 => ?_⟩⟩⟩
          have A := (A1.trans A2).trans A3
          have V3 := (A2.trans A3).val V1
          split at em
          · rename_i ds h1
            cases em
            obtain ⟨a, vs, rfl, s1, r1⟩ := peek_list A3.rel V3 h1
            exact .inl ⟨a, vs, rfl, s1, fun p hp => q _ F3 _ (A.trans (Aft.lay A3.rel hp)) (Aft.newL A3.rel hp (dpAll_cut r1)) (A.new (VNew.ref hp))⟩
          · rename_i ds h1
            cases em
            have pf := peek_flat A3.rel V3 h1 (fun _ e => nomatch e)
            obtain ⟨a, vs, rfl, s1, r1⟩ := peek_tup A3.rel V3 h1
            refine .inr ⟨a, vs, rfl, s1.1, fun hw => ?_, fun _ p o hp hd => ?_⟩
            · rw [dpAll_len r1] at hw
              rw [cutD_whole hw] at q
              exact q _ F3 H3 A pf VNew.dat
            · exact q _ _ _ (A.trans (Aft.layF A3.rel hp)) (Aft.newT A3.rel hp hd (dpAll_cut r1)) VNew.dat
          · cases em
        · cases em
      · cases em
    · cases em
end

/-! ### xs[i] = .. -/
/-- as a target: the object of a slot, an index -/
def gIx (i : Nat) (mi : ME) : MG := fun d fm => match fm[i]? with
  | some (some (.own _)) => match mi fm with
    | some (.dat (.int k), fm1) => match fm1[i]? with
      | some (some (.own (.lst ds))) => match ixN ds.length k with
        | some j => some (fm1.set i (some (.own (.lst (ds.set j d)))))
        | none => none
      | _ => none
    | _ => none
  | _ => none
section
variable {X : Cx} {e : Expr} {pos p1 : Pos} {ro : List Nat}
theorem sg_ix {i : Nat} {x : Str} {mi : ME} (hN : X.N[i]? = some x) (hv : Vis X.env.scope x) (hd : (x == ("__debug__" : Str)) = false) (hcd : (x == ("__classdict__" : Str)) = false) (he : SE X e mi) (hs : isSlice e = false) : SG X (Dq X.K) ro (.Subscript (.Name x p1) e pos) (gIx i mi) :=
  pg_le (pg_sub (pe_var hN hv hd hcd) he set_list (fun v => by cases e <;> first | rfl | cases hs)) fun v σ H Q ⟨F, fm, d, fm', R, D, em, q⟩ => by
    unfold gIx at em
    split at em
    · rename_i c hi
      obtain ⟨p, hy, hf, hc⟩ := R.own i c hi
      split at em
      · rename_i k fm1 e1
        split at em
        · rename_i ds h1
          split at em
          · rename_i j hj
            cases em
            refine ⟨.ref p, hy, F, fm, _, fm1, R, e1, fun z F1 H1 A1 V1 N1 => ?_⟩
            have := dpint V1
            subst this
            obtain ⟨p', vs, e, hs', hp, r⟩ := A1.rel.ownL h1 hy
            cases e
            refine ⟨p, vs, k, j, rfl, rfl, hp, by rw [dpAll_len r]; exact hj, ?_⟩
            exact q σ F1 _ (A1.trans (Aft.write A1.rel h1 hs' (dpAll_set (dp_mono A1.ext.same D) j r))).s
          · cases em
        · cases em
      · cases em
    · cases em
end
end Rf


/-! Rg2b: in, isinstance, built-ins over sequences, t.index, repr. -/
namespace Rf
open PySem PySem.Spec PyProof.Rows L2

/-! ### in, not in -/
def seqD : PyData → Option (List PyData)
  | .list ds => some ds
  | .tuple ds => some ds
  | _ => none
def fInX : F2 := fun va vb fm => match peek va fm, peek vb fm with
  | some d, some e => match seqD e with
    | some ds => if SeqAt.shaped d && SeqAt.shaped e then some (.dat (.bool (ds.any fun z => PyData.eqv z d)), fm) else none
    | none => none
  | _, _ => none
def fNotInX : F2 := fun va vb fm => match peek va fm, peek vb fm with
  | some d, some e => match seqD e with
    | some ds => if SeqAt.shaped d && SeqAt.shaped e then some (.dat (.bool (!ds.any fun z => PyData.eqv z d)), fm) else none
    | none => none
  | _, _ => none
def rInX (K : PySem.W.Frag) (n : Bool → Bool) : R2 := fun x y H Q => ∃ d e ds, Dp K H x d ∧ Dp K H y e ∧ seqD e = some ds ∧ SeqAt.shaped d = true ∧ SeqAt.shaped e = true ∧ Q (.bl (n (ds.any fun z => PyData.eqv z d))) H
section
variable {X : Cx} {K : PySem.W.Frag}
theorem shaped_items {e : PyData} {ds : List PyData} (h : seqD e = some ds) (he : SeqAt.shaped e = true) : PyData.canLayAll0 ds = true := by
  have h1 := SeqAt.canLay_of_shaped he
  cases e with
  | list _ => cases h; exact h1
  | tuple _ => cases h; exact h1
  | _ => cases h
theorem op_inX (hu : X.A.units + 65 < cLine) : OpR X (compareOp .In) (rInX X.K id) := by
  intro pins s σ H x y v u Q I rx ry h
  obtain ⟨d, e, ds, hd, he, hs, sd, se, q⟩ := h
  obtain ⟨as, r1⟩ := Dp.reads I d x v hd rx
  obtain ⟨bs, r2⟩ := Dp.reads I e y u he ry
  have hl := shaped_items hs se
  cases e with
  | list _ => cases hs; exact SeqAt.in_list_reads r2 r1 hl (SeqAt.canLay_of_shaped sd) (room_in_shaped sd hu) ⟨.bl _, H, I, rfl, q⟩
  | tuple _ => cases hs; exact SeqAt.in_tuple_reads r2 r1 hl (SeqAt.canLay_of_shaped sd) (room_in_shaped sd hu) ⟨.bl _, H, I, rfl, q⟩
  | _ => cases hs
theorem op_notInX (hu : X.A.units + 65 < cLine) : OpR X (compareOp .NotIn) (rInX X.K not) := by
  intro pins s σ H x y v u Q I rx ry h
  obtain ⟨d, e, ds, hd, he, hs, sd, se, q⟩ := h
  obtain ⟨as, r1⟩ := Dp.reads I d x v hd rx
  obtain ⟨bs, r2⟩ := Dp.reads I e y u he ry
  have hl := shaped_items hs se
  cases e with
  | list _ => cases hs; exact SeqAt.notIn_list_reads r2 r1 hl (SeqAt.canLay_of_shaped sd) (room_in_shaped sd hu) ⟨.bl _, H, I, rfl, q⟩
  | tuple _ => cases hs; exact SeqAt.notIn_tuple_reads r2 r1 hl (SeqAt.canLay_of_shaped sd) (room_in_shaped sd hu) ⟨.bl _, H, I, rfl, q⟩
  | _ => cases hs
theorem p_inX : Prim2 K (rInX K id) fInX := by
  intro F H σ fm fm' va vb x y v R Va Vb h Q q
  unfold fInX at h
  split at h
  · rename_i d e h1 h2
    split at h
    · rename_i ds hs
      split at h
      · rename_i hc
        cases h
        simp only [Bool.and_eq_true] at hc
        exact ⟨d, e, ds, (peek_dp R Va h1).dp, (peek_dp R Vb h2).dp, hs, hc.1, hc.2, q _ F H (Aft.refl R) (.bl _) VNew.dat⟩
      · cases h
    · cases h
  · cases h
theorem p_notInX : Prim2 K (rInX K not) fNotInX := by
  intro F H σ fm fm' va vb x y v R Va Vb h Q q
  unfold fNotInX at h
  split at h
  · rename_i d e h1 h2
    split at h
    · rename_i ds hs
      split at h
      · rename_i hc
        cases h
        simp only [Bool.and_eq_true] at hc
        exact ⟨d, e, ds, (peek_dp R Va h1).dp, (peek_dp R Vb h2).dp, hs, hc.1, hc.2, q _ F H (Aft.refl R) (.bl _) VNew.dat⟩
      · cases h
    · cases h
  · cases h
end

/-! ### isinstance -/
def isTy (d : PyData) (T : String) : Option Bool := match d with
  | .none => kitB "NoneType" T
  | .bool _ => kitB "bool" T
  | .int _ => kitB "int" T
  | .str _ => kitB "str" T
  | .list _ => kitB "list" T
  | .tuple _ => kitB "tuple" T
  | _ => none
def isAny (d : PyData) : List String → Option Bool
  | [] => some false
  | T :: Ts => match isTy d T with
    | some true => some true
    | some false => isAny d Ts
    | none => none
def mIsi (Ts : List String) (m : ME) : ME := fun fm => match m fm with
  | some (v, fm1) => match peek v fm1 with
    | some d => match isAny d Ts with
      | some b => some (.dat (.bool b), fm1)
      | none => none
    | none => none
  | none => none
section
variable {X : Cx} {K : PySem.W.Frag}
def tyName : PyData → String
  | .none => "NoneType"
  | .bool _ => "bool"
  | .int _ => "int"
  | .str _ => "str"
  | .list _ => "list"
  | _ => "tuple"
theorem dq_ty {H : Hp} {x : V} {d : PyData} (h : Dp K H x d) : TyX K H x (.type (tyName d)) := by
  cases h with
  | non => exact .base .non
  | bl b => exact .base (.bl b)
  | int i => exact .base (.int i)
  | str z => exact .base (.str z)
  | lst s _ =>
    rcases s with (s | ⟨o, s⟩) | ⟨o, its, n, hk, hc, _⟩
    · exact .base (.lst s)
    · exact .base (.frz s)
    · exact .kList hk hc
  | tup s _ =>
    rcases s with (s | ⟨o, s⟩) | ⟨o, its, n, hk, hc, _⟩
    · exact .base (.tup s)
    · exact .fTuple s
    · exact .kTuple hk hc
theorem isTy_kit {H : Hp} {x : V} {d : PyData} {T : String} {b : Bool} (hd : Dp K H x d) (h : isTy d T = some b) : PySem.W.kitOne K (.type (tyName d)) (.type T) = some b := by
  cases hd <;> exact kit_ty h
theorem isAny_kit {H : Hp} {x : V} {d : PyData} (hd : Dp K H x d) : ∀ {Ts : List String} {b : Bool}, isAny d Ts = some b → PySem.W.kitAny K (.type (tyName d)) (Ts.map Value.type) = some b
  | [], _, h => by cases h; exact kitAny_nil
  | T :: Ts, b, h => by
    unfold isAny at h
    split at h
    · rename_i e
      cases h
      exact kitAny_cons (isTy_kit hd e) (fun z => nomatch z) fun _ => rfl
    · rename_i e
      exact kitAny_cons (isTy_kit hd e) (fun _ => isAny_kit hd h) fun z => nomatch z
    · cases h
variable {e : Expr} {p pos p1 p2 : Pos} {k : Nat}
/-- a built-in class by its name -/
def IsTyN (X : Cx) (x : Str) (T : String) : Prop := Gl X x ∧ X.mg x = none ∧ bootBuiltins x = some (.type T) ∧ x ≠ "__name__" ∧ (x == ("__debug__" : Str)) = false
theorem IsTyN.pe {x : Str} {T : String} (h : IsTyN X x T) : PE X (.Name x p) (tC (.ty T)) := pe_bltn h.1 h.2.1 h.2.2.1 rfl h.2.2.2.1 h.2.2.2.2
theorem se_isi1 {m : ME} {x : Str} {T : String} (hg : Gl X "isinstance") (hm : X.mg "isinstance" = none) (he : SE X e m) (hT : IsTyN X x T) (hs : isStar e = false) :
    SE X (.Call (.Name "isinstance" p) [e, .Name x p1] [] pos) (mIsi [T] m) := by
  have s1 : starEach [e, .Name x p1] X.env = (false, eval e X.env) :: starEach [.Name x p1] X.env := star_cons hs
  refine pe_le (pe_callB call_isi hg hm boot_isinstance (pa_cons he (pa_cons hT.pe pa_nil) s1) (by decide) (by decide) s1) fun σ H Q h => ?_
  obtain ⟨F, fm, v, fm', R, em, q⟩ := h
  unfold mIsi at em
  split at em
  · rename_i w fm1 e1
    split at em
    · rename_i d hd
      split at em
      · rename_i b hb
        cases em
        refine ⟨F, fm, w, _, R, e1, fun x F1 H1 A1 V1 N1 => ?_⟩
        have D := (peek_dp A1.rel V1 hd).dp
        have hb' : isTy d T = some b := by
          unfold isAny at hb
          split at hb
          · rename_i e; rw [e]; exact hb
          · rename_i e; cases hb; exact e
          · cases hb
        exact ⟨x, .ty T, _, _, b, rfl, .ty T, dq_ty D, isTy_kit D hb', q _ F1 H1 A1 (.bl b) VNew.dat⟩
      · cases em
    · cases em
  · cases em
end
end Rf

/-! Rg2c: == of texts, isinstance with several classes, all, any, min, max, sorted, index, repr. -/
namespace Rf
open PySem PySem.Spec PyProof.Rows L2

/-! ### == of texts, of data -/
def fEqX : F2 := fun va vb fm => match peek va fm, peek vb fm with
  | some (.str a), some (.str b) => some (.dat (.bool (decide (a = b))), fm)
  | some d, some e => if SeqAt.shaped d && SeqAt.shaped e then some (.dat (.bool (PyData.eqv d e)), fm) else none
  | _, _ => none
def fNeX : F2 := fun va vb fm => match peek va fm, peek vb fm with
  | some (.str a), some (.str b) => some (.dat (.bool (!decide (a = b))), fm)
  | some d, some e => if SeqAt.shaped d && SeqAt.shaped e then some (.dat (.bool (!PyData.eqv d e)), fm) else none
  | _, _ => none
section
variable {K : PySem.W.Frag}
theorem p_eqX : Prim2 K (fun x y H Q => rEq x y H Q ∨ rEqD K x y H Q) fEqX := by
  intro F H σ fm fm' va vb x y v R Va Vb h Q q
  unfold fEqX at h
  split at h
  · rename_i a b h1 h2
    cases h
    have e1 := peek_str R Va h1
    have e2 := peek_str R Vb h2
    subst e1 e2
    refine .inl ⟨rfl, ?_⟩
    have e : decide (V.str a = V.str b) = decide (a = b) := by simp
    rw [e]
    exact q _ F H (Aft.refl R) (.bl _) VNew.dat
  · rename_i d e _ h1 h2
    split at h
    · rename_i hc
      cases h
      simp only [Bool.and_eq_true] at hc
      exact .inr ⟨d, e, (peek_dp R Va h1).dp, (peek_dp R Vb h2).dp, hc.1, hc.2, q _ F H (Aft.refl R) (.bl _) VNew.dat⟩
    · cases h
  · cases h
theorem p_neX : Prim2 K (fun x y H Q => rNe x y H Q ∨ rNeD K x y H Q) fNeX := by
  intro F H σ fm fm' va vb x y v R Va Vb h Q q
  unfold fNeX at h
  split at h
  · rename_i a b h1 h2
    cases h
    have e1 := peek_str R Va h1
    have e2 := peek_str R Vb h2
    subst e1 e2
    refine .inl ⟨rfl, ?_⟩
    have e : decide (V.str a = V.str b) = decide (a = b) := by simp
    first
      | (rw [e]; exact q _ F H (Aft.refl R) (.bl _) VNew.dat)
      | (have e' : (decide (V.str a ≠ V.str b)) = !decide (a = b) := by simp
         rw [e']; exact q _ F H (Aft.refl R) (.bl _) VNew.dat)
  · rename_i d e _ h1 h2
    split at h
    · rename_i hc
      cases h
      simp only [Bool.and_eq_true] at hc
      exact .inr ⟨d, e, (peek_dp R Va h1).dp, (peek_dp R Vb h2).dp, hc.1, hc.2, q _ F H (Aft.refl R) (.bl _) VNew.dat⟩
    · cases h
  · cases h
end
/-! ### isinstance(x, (A, B)) -/
inductive TyNs (X : Cx) : List Expr → List String → Prop
  | nil : TyNs X [] []
  | cons {x : Str} {p : Pos} {T : String} {es : List Expr} {Ts : List String} (h : IsTyN X x T) (r : TyNs X es Ts) : TyNs X (.Name x p :: es) (T :: Ts)
section
variable {X : Cx} {K : PySem.W.Frag} {e : Expr} {es : List Expr} {p pos p1 p2 : Pos} {k : Nat}
theorem TyNs.pa : ∀ {es : List Expr} {Ts : List String}, TyNs X es Ts → PA X es (fun _ H Q => Q (Ts.map V.ty) H)
  | _, _, .nil => pa_le pa_nil fun σ H Q h => h
  | _, _, .cons (p := p) h r => pa_le (pa_cons (h.pe (p := p)) r.pa) fun σ H Q h => h
theorem cls_all : ∀ Ts : List String, Paired ClsV (Ts.map V.ty) (Ts.map Value.type)
  | [] => .nil
  | T :: Ts => .cons (.ty T) (cls_all Ts)
theorem se_isiT {m : ME} {Ts : List String} (hg : Gl X "isinstance") (hm : X.mg "isinstance" = none) (he : SE X e m) (hT : TyNs X es Ts) (hl : Ts.length ≤ sizeLine) (hs : isStar e = false) :
    SE X (.Call (.Name "isinstance" p) [e, .Tuple es k p1] [] pos) (mIsi Ts m) := by
  have s1 : starEach [e, .Tuple es k p1] X.env = (false, eval e X.env) :: starEach [.Tuple es k p1] X.env := star_cons hs
  refine pe_le (pe_callB call_isiT hg hm boot_isinstance (pa_cons he (pa_cons (pe_tup hT.pa) pa_nil) s1) (by decide) (by decide) s1) fun σ H Q h => ?_
  obtain ⟨F, fm, v, fm', R, em, q⟩ := h
  unfold mIsi at em
  split at em
  · rename_i w fm1 e1
    split at em
    · rename_i d hd
      split at em
      · rename_i b hb
        cases em
        refine ⟨F, fm, w, _, R, e1, fun x F1 H1 A1 V1 N1 => ⟨by rw [List.length_map]; exact hl, fun t ht => ?_⟩⟩
        have A2 := A1.trans (Aft.lay (o := .tup (Ts.map V.ty)) A1.rel ht)
        have D := (peek_dp A2.rel ((Aft.lay A1.rel ht).val V1) hd).dp
        exact ⟨x, t, _, _, _, b, rfl, upd_same, cls_all Ts, dq_ty D, isAny_kit D hb, q _ F1 _ A2 (.bl b) VNew.dat⟩
      · cases em
    · cases em
  · cases em
end
/-! ### lists of bools, of ints -/
def boolsD : List PyData → Option (List Bool)
  | [] => some []
  | .bool b :: ds => (boolsD ds).map (b :: ·)
  | _ => none
def intsD : List PyData → Option (List Int)
  | [] => some []
  | .int b :: ds => (intsD ds).map (b :: ·)
  | _ => none
theorem boolsD_eq : ∀ {ds : List PyData} {bs : List Bool}, boolsD ds = some bs → ds = bs.map .bool
  | [], _, h => by cases h; rfl
  | d :: ds, bs, h => by
    unfold boolsD at h
    split at h
    · rename_i e; cases e
    · rename_i b ds' e
      cases e
      cases h2 : boolsD ds with
      | none => rw [h2] at h; cases h
      | some cs => rw [h2] at h; cases h; rw [boolsD_eq h2]; rfl
    · cases h
theorem intsD_eq : ∀ {ds : List PyData} {bs : List Int}, intsD ds = some bs → ds = bs.map .int
  | [], _, h => by cases h; rfl
  | d :: ds, bs, h => by
    unfold intsD at h
    split at h
    · rename_i e; cases e
    · rename_i b ds' e
      cases e
      cases h2 : intsD ds with
      | none => rw [h2] at h; cases h
      | some cs => rw [h2] at h; cases h; rw [intsD_eq h2]; rfl
    · cases h
section
variable {K : PySem.W.Frag} {F : Hp}
theorem dq_bools : ∀ {bs : List Bool} {vs : List V}, DqAll K F vs (bs.map .bool) → vs = bs.map V.bl
  | [], _, h => by cases h; rfl
  | b :: bs, _, h => by
    cases h with
    | cons h r => cases h; rw [dq_bools r]; rfl
theorem dq_ints : ∀ {bs : List Int} {vs : List V}, DqAll K F vs (bs.map .int) → vs = bs.map V.int
  | [], _, h => by cases h; rfl
  | b :: bs, _, h => by
    cases h with
    | cons h r => cases h; rw [dq_ints r]; rfl
theorem ints_dq : ∀ (bs : List Int), DqAll K F (bs.map V.int) (bs.map .int)
  | [] => .nil
  | b :: bs => .cons (.int b) (ints_dq bs)
end
def fAll : FA := fun vs fm => match vs with
  | [v] => match peek v fm with
    | some (.list ds) => match boolsD ds with
      | some bs => some (.dat (.bool (bs.all id)), fm)
      | none => none
    | _ => none
  | _ => none
def fAny : FA := fun vs fm => match vs with
  | [v] => match peek v fm with
    | some (.list ds) => match boolsD ds with
      | some bs => some (.dat (.bool (bs.any id)), fm)
      | none => none
    | _ => none
  | _ => none
def fSum : FA := fun vs fm => match vs with
  | [v] => match peek v fm with
    | some (.list ds) => match intsD ds with
      | some bs => some (.dat (.int bs.sum), fm)
      | none => none
    | _ => none
  | _ => none
def sortI (ns : List Int) : List Int := ns.mergeSort fun a b => decide (a ≤ b)
def fSorted : FA := fun vs fm => match vs with
  | [v] => match peek v fm with
    | some (.list ds) => match intsD ds with
      | some bs => some (.fre (.lst ((sortI bs).map .int)), fm)
      | none => none
    | _ => none
  | _ => none
theorem sortI_perm (ns : List Int) : (sortI ns).Perm ns := List.mergeSort_perm _ _
theorem sortI_pair (ns : List Int) : (sortI ns).Pairwise (· ≤ ·) := by
  have h := List.pairwise_mergeSort (le := fun a b : Int => decide (a ≤ b)) (fun a b c h1 h2 => by simp at *; omega) (fun a b => by simp; omega) ns
  exact h.imp fun h => by simpa using h
theorem sortI_uniq {ns ms : List Int} (h : ms.Perm ns) (k : ms.Pairwise (· ≤ ·)) : ms = sortI ns :=
  List.Perm.eq_of_pairwise (fun a b _ _ h1 h2 => Int.le_antisymm h1 h2) k (sortI_pair ns) (h.trans (sortI_perm ns).symm)
section
variable {X : Cx} {K : PySem.W.Frag}
theorem p_all : PrimA K (rAll K) fAll := by
  intro F H σ fm fm' vs xs v R Vs h Q q
  unfold fAll at h
  split at h
  · obtain ⟨y, rfl, V⟩ := vsrel1 Vs
    split at h
    · rename_i ds h1
      split at h
      · rename_i bs hb
        cases h
        obtain ⟨a, ys, rfl, s1, r1⟩ := peek_list R V h1
        have e := boolsD_eq hb
        subst e
        have e := dq_bools r1
        subst e
        exact ⟨a, bs, rfl, s1, q _ F H (Aft.refl R) (.bl _) VNew.dat⟩
      · cases h
    · cases h
  · cases h
theorem p_any : PrimA K (rAny K) fAny := by
  intro F H σ fm fm' vs xs v R Vs h Q q
  unfold fAny at h
  split at h
  · obtain ⟨y, rfl, V⟩ := vsrel1 Vs
    split at h
    · rename_i ds h1
      split at h
      · rename_i bs hb
        cases h
        obtain ⟨a, ys, rfl, s1, r1⟩ := peek_list R V h1
        have e := boolsD_eq hb
        subst e
        have e := dq_bools r1
        subst e
        exact ⟨a, bs, rfl, s1, q _ F H (Aft.refl R) (.bl _) VNew.dat⟩
      · cases h
    · cases h
  · cases h
theorem p_sum : PrimA K (rSum K) fSum := by
  intro F H σ fm fm' vs xs v R Vs h Q q
  unfold fSum at h
  split at h
  · obtain ⟨y, rfl, V⟩ := vsrel1 Vs
    split at h
    · rename_i ds h1
      split at h
      · rename_i bs hb
        cases h
        obtain ⟨a, ys, rfl, s1, r1⟩ := peek_list R V h1
        have e := intsD_eq hb
        subst e
        have e := dq_ints r1
        subst e
        exact ⟨a, bs, rfl, s1, q _ F H (Aft.refl R) (.int _) VNew.dat⟩
      · cases h
    · cases h
  · cases h
theorem p_sorted : PrimA K (rSortedI K) fSorted := by
  intro F H σ fm fm' vs xs v R Vs h Q q
  unfold fSorted at h
  split at h
  · obtain ⟨y, rfl, V⟩ := vsrel1 Vs
    split at h
    · rename_i ds h1
      split at h
      · rename_i bs hb
        cases h
        obtain ⟨a, ys, rfl, s1, r1⟩ := peek_list R V h1
        have e := intsD_eq hb
        subst e
        have e := dq_ints r1
        subst e
        refine ⟨a, bs, rfl, s1, fun ms p hp hs hn => ?_⟩
        have e := sortI_uniq hp hs
        subst e
        exact q _ F _ (Aft.lay R hn) (Aft.newL R hn (ints_dq _)) (VNew.ref hn)
      · cases h
    · cases h
  · cases h
end
end Rf

/-! Rg2d: min, max of a sequence of ints, index, repr. -/
namespace Rf
open PySem PySem.Spec PyProof.Rows L2

def fBest (g : Int → Int → Int) : FA := fun vs fm => match vs with
  | [v] => match peek v fm with
    | some d => match seqD d with
      | some ds => match intsD ds with
        | some (n :: ns) => some (.dat (.int (ns.foldl g n)), fm)
        | _ => none
      | none => none
    | none => none
  | _ => none
def rBest (K : PySem.W.Frag) (g : Int → Int → Int) : List V → Hp → VK → Prop := fun vs H Q => ∃ x d n ns, vs = [x] ∧ Dp K H x d ∧ seqD d = some ((n :: ns).map .int) ∧ Q (.int (ns.foldl g n)) H
section
variable {X : Cx} {K : PySem.W.Frag}
theorem p_best {g : Int → Int → Int} : PrimA K (rBest K g) (fBest g) := by
  intro F H σ fm fm' vs xs v R Vs h Q q
  unfold fBest at h
  split at h
  · obtain ⟨y, rfl, V⟩ := vsrel1 Vs
    split at h
    · rename_i d h1
      split at h
      · rename_i ds hs
        split at h
        · rename_i n ns hb
          cases h
          exact ⟨y, d, n, ns, rfl, (peek_dp R V h1).dp, by rw [hs, intsD_eq hb], q _ F H (Aft.refl R) (.int _) VNew.dat⟩
        · cases h
      · cases h
    · cases h
  · cases h
theorem alike_ints (ns : List Int) : PySem.W.AlikeAll (ns.map .int) := by
  refine ⟨fun x hx y hy => ?_, fun x hx => ?_⟩
  · obtain ⟨i, _, rfl⟩ := List.mem_map.mp hx
    obtain ⟨j, _, rfl⟩ := List.mem_map.mp hy
    rfl
  · obtain ⟨i, _, rfl⟩ := List.mem_map.mp hx
    exact fun e => nomatch e
theorem depth_ints : ∀ ns : List Int, PyData.depthAll (ns.map .int) = 0
  | [] => by simp [PyData.depthAll]
  | n :: ns => by simp [PyData.depthAll, PyData.depth, depth_ints ns]
theorem reads_int {h : Heap} {v : Value} {i : Int} {as : List Addr} (r : Reads h v (.int i) as) : ∃ t, v = .int i t := by
  cases r; exact ⟨_, rfl⟩
theorem call_minX (hc : X.calm = true) (hu : X.A.units + 64 < cLine) : CallR X (.builtin "min") (rBest X.K min) := by
  intro pins s σ H vs us Q I r h
  obtain ⟨x, d, n, ns, rfl, hd, hs, q⟩ := h
  obtain ⟨u, rfl, rx⟩ := vals1 r
  obtain ⟨as, rd⟩ := Dp.reads I d x u hd rx
  have hdp := depth_ints (n :: ns)
  have fin : ∀ (v : Value) (h' : Heap) (tk : Nat) (bs : List Addr), Reads h' v (PySem.W.minD (.int n) (ns.map .int)) bs → (∀ b o, s.heap.get? b = some o → h'.get? b = some o) → EP X pins σ Q v { s with heap := h', toks := tk } := fun v h' tk bs rr hk => by
    rw [PySem.W.minD_ints] at rr
    obtain ⟨t, rfl⟩ := reads_int rr
    exact ⟨.int _, H, I.kept hk, ⟨t, rfl⟩, q⟩
  cases rd with
  | list h1 h2 h3 h4 =>
    cases hs
    exact PySem.W.min_list_data (I.ok.hd hc) ⟨_, h1, h2, _, h3⟩ h4 (alike_ints (n :: ns)) (by show _ + PyData.depthAll ((n :: ns).map .int) < _; rw [hdp]; omega) fun i v h' tk bs _ rr hk => fin v h' tk bs rr hk
  | tuple h1 h2 h3 h4 =>
    cases hs
    exact PySem.W.min_tuple_data (I.ok.hd hc) ⟨_, h1, h2, _, h3⟩ h4 (alike_ints (n :: ns)) (by show _ + PyData.depthAll ((n :: ns).map .int) < _; rw [hdp]; omega) fun i v h' tk bs _ rr hk => fin v h' tk bs rr hk
  | _ => cases hs
theorem call_maxX (hc : X.calm = true) (hu : X.A.units + 64 < cLine) : CallR X (.builtin "max") (rBest X.K max) := by
  intro pins s σ H vs us Q I r h
  obtain ⟨x, d, n, ns, rfl, hd, hs, q⟩ := h
  obtain ⟨u, rfl, rx⟩ := vals1 r
  obtain ⟨as, rd⟩ := Dp.reads I d x u hd rx
  have hdp := depth_ints (n :: ns)
  have fin : ∀ (v : Value) (h' : Heap) (tk : Nat) (bs : List Addr), Reads h' v (PySem.W.maxD (.int n) (ns.map .int)) bs → (∀ b o, s.heap.get? b = some o → h'.get? b = some o) → EP X pins σ Q v { s with heap := h', toks := tk } := fun v h' tk bs rr hk => by
    rw [PySem.W.maxD_ints] at rr
    obtain ⟨t, rfl⟩ := reads_int rr
    exact ⟨.int _, H, I.kept hk, ⟨t, rfl⟩, q⟩
  cases rd with
  | list h1 h2 h3 h4 =>
    cases hs
    exact PySem.W.max_list_data (I.ok.hd hc) ⟨_, h1, h2, _, h3⟩ h4 (alike_ints (n :: ns)) (by show _ + PyData.depthAll ((n :: ns).map .int) < _; rw [hdp]; omega) fun i v h' tk bs _ rr hk => fin v h' tk bs rr hk
  | tuple h1 h2 h3 h4 =>
    cases hs
    exact PySem.W.max_tuple_data (I.ok.hd hc) ⟨_, h1, h2, _, h3⟩ h4 (alike_ints (n :: ns)) (by show _ + PyData.depthAll ((n :: ns).map .int) < _; rw [hdp]; omega) fun i v h' tk bs _ rr hk => fin v h' tk bs rr hk
  | _ => cases hs
/-! index: ints -/
def rIdx (K : PySem.W.Frag) (T : Bool) : V → List V → Hp → VK → Prop := fun x xs H Q => ∃ (a : Addr) (ns : List Int) (k : Int), x = .ref a ∧ xs = [.int k] ∧ (if T = true then SqT K H a (ns.map V.int) else SqL K H a (ns.map V.int)) ∧ k ∈ ns ∧ Q (.int (ns.idxOf k : Nat)) H
def fIdx (T : Bool) : FM := fun o vs fm => match vs with
  | [w] => match peek o fm, peek w fm with
    | some d, some (.int k) => match d, T with
      | .tuple ds, true => (match intsD ds with
        | some ns => if k ∈ ns then some (.dat (.int (ns.idxOf k : Nat)), fm) else none
        | none => none)
      | .list ds, false => (match intsD ds with
        | some ns => if k ∈ ns then some (.dat (.int (ns.idxOf k : Nat)), fm) else none
        | none => none)
      | _, _ => none
    | _, _ => none
  | _ => none
theorem p_idx {T : Bool} : PrimM K (rIdx K T) (fIdx T) := by
  intro F H σ fm fm' o ws x xs v R V D h Q q
  unfold fIdx at h
  split at h
  · rename_i w
    obtain ⟨y, rfl, Vy⟩ := vsrel1 D
    split at h
    · rename_i d k hd hk
      have ey := peek_int R Vy hk
      subst ey
      split at h
      · rename_i ds
        split at h
        · rename_i ns hn
          split at h
          · rename_i hin
            cases h
            obtain ⟨a, ys, rfl, s1, r1⟩ := peek_tup R V hd
            have e := intsD_eq hn
            subst e
            have e := dq_ints r1
            subst e
            exact ⟨a, ns, k, rfl, rfl, s1.1, hin, q _ F H (Aft.refl R) (.int _) VNew.dat⟩
          · cases h
        · cases h
      · rename_i ds
        split at h
        · rename_i ns hn
          split at h
          · rename_i hin
            cases h
            obtain ⟨a, ys, rfl, s1, r1⟩ := peek_list R V hd
            have e := intsD_eq hn
            subst e
            have e := dq_ints r1
            subst e
            exact ⟨a, ns, k, rfl, rfl, s1, hin, q _ F H (Aft.refl R) (.int _) VNew.dat⟩
          · cases h
        · cases h
      · cases h
    · cases h
  · cases h
theorem itemsEq_ints {A : Around} {s : Shared} {its : List Value} {ns : List Int} {k : Int} {t : Tok} (hi : IntsAre its ns) : SeqAt.ItemsEq A s its ns (.int k t) k := by
  refine ⟨hi.length, ?_⟩
  induction hi with
  | nil => intro j h1 _; exact absurd h1 (Nat.not_lt_zero j)
  | cons n t' _ ih =>
    intro j h1 h2
    cases j with
    | zero =>
      have e := SeqAt.EqAt.int_int (A := A) (s := s) n t' k t
      have e2 : (n == k) = decide (n = k) := by
        by_cases z : n = k
        · simp [z]
        · simp [z]
      rw [e2] at e
      exact e
    | succ j => exact ih j (by simpa using h1) (by simpa using h2)
theorem mt_idxT : MtR X "tuple.index" (rIdx X.K true) := by
  intro pins s σ H x xs v us Q I rx rs h
  obtain ⟨a, ns, k, rfl, rfl, hs, hin, q⟩ := h
  cases rx
  obtain ⟨u, rfl, t, rfl⟩ := vals1 rs
  obtain ⟨its, r, pl, hz⟩ := I.tuple (show SqT X.K H a (ns.map V.int) from hs)
  exact SeqAt.call_tuple_index (α := Int) pl (itemsEq_ints r.ints) hin ⟨.int _, H, I.tok _, ⟨_, rfl⟩, q⟩
theorem mt_idxL : MtR X "list.index" (rIdx X.K false) := by
  intro pins s σ H x xs v us Q I rx rs h
  obtain ⟨a, ns, k, rfl, rfl, hs, hin, q⟩ := h
  cases rx
  obtain ⟨u, rfl, t, rfl⟩ := vals1 rs
  obtain ⟨its, r, pl, hz⟩ := I.list (show SqL X.K H a (ns.map V.int) from hs)
  exact SeqAt.call_list_index (α := Int) pl.isList (itemsEq_ints r.ints) (by rw [List.length_map] at hz; exact hz) hin ⟨.int _, H, I.tok _, ⟨_, rfl⟩, q⟩
/-! repr -/
def okRepr (d : PyData) : Bool := d.showable && !d.hasDict && decide (d.depth ≤ 60) && decide (d.shown.length ≤ sizeLine)
def fRepr : FA := fun vs fm => match vs with
  | [v] => match peek v fm with
    | some d => if okRepr d then some (.dat (.str d.shown), fm) else none
    | none => none
  | _ => none
def rRepr (K : PySem.W.Frag) : List V → Hp → VK → Prop := fun vs H Q => ∃ x d, vs = [x] ∧ Dp K H x d ∧ okRepr d = true ∧ Q (.str d.shown) H
theorem p_repr : PrimA K (rRepr K) fRepr := by
  intro F H σ fm fm' vs xs v R Vs h Q q
  unfold fRepr at h
  split at h
  · obtain ⟨y, rfl, V⟩ := vsrel1 Vs
    split at h
    · rename_i d h1
      split at h
      · rename_i ho
        cases h
        exact ⟨y, d, rfl, (peek_dp R V h1).dp, ho, q _ F H (Aft.refl R) (.str _) VNew.dat⟩
      · cases h
    · cases h
  · cases h
theorem call_reprX (hgd : X.A.guards = some []) (hu : X.A.units + 64 < cLine) : CallR X (.builtin "repr") (rRepr X.K) := by
  intro pins s σ H vs us Q I r h
  obtain ⟨x, d, rfl, hd, ho, q⟩ := h
  obtain ⟨u, rfl, rx⟩ := vals1 r
  obtain ⟨as, rd⟩ := Dp.reads I d x u hd rx
  unfold okRepr at ho
  simp only [Bool.and_eq_true, Bool.not_eq_true', decide_eq_true_eq] at ho
  obtain ⟨⟨⟨h1, h2⟩, h3⟩, h4⟩ := ho
  have big : ∀ a, u = .ref a → wpAny (model X.prog X.w) X.A (call (.builtin "repr") [u]) (EP X pins σ Q) X.xe s := fun a e => by
    subst e
    exact repr_of_reads' rd h1 (fun e => by rw [h2] at e; cases e) hgd (by omega) (fun _ _ e => e) (fun h' t tk hk => ⟨.str _, H, I.kept hk, ⟨t, rfl⟩, q⟩) h4
  cases hd with
  | non => cases rx; exact PySem.P.repr_of_none ⟨.str _, H, I.tok _, ⟨_, rfl⟩, q⟩
  | bl b => cases rx; exact PySem.P.repr_of_bool ⟨.str _, H, I.tok _, ⟨_, rfl⟩, q⟩
  | int i =>
    obtain ⟨t, rfl⟩ := rx
    exact PySem.P.repr_of_int (by simpa [PyData.showable] using h1) ⟨.str _, H, I.tok _, ⟨_, rfl⟩, q⟩
  | str z =>
    obtain ⟨t, rfl⟩ := rx
    exact PySem.P.repr_of_str ⟨.str _, H, I.tok _, ⟨_, rfl⟩, q⟩ h4
  | lst _ _ => exact big _ rx
  | tup _ _ => exact big _ rx
end
end Rf

/-! Rh1: calls of defs where it is known that no repr is under way; keywords; a def's body; the law's call. -/
namespace Rf
open PySem PySem.Spec PyProof.Rows L2

/-- a def keeps its promise wherever no guard is on the stack; nothing is raised -/
structure FnG (P : Program) (w : World) (K : PySem.W.Frag) (mg : Str → Option Value) (base : Heap) (k : Nat) (f : Addr) (fd : FuncData) (ps : List Str) (sp : Sp) : Prop where
  len : ∀ vs H Q E, sp vs H Q E → vs.length = ps.length
  go : ∀ {A : Around} {outer : List Env} {s : Shared} {H : Hp} {args : Args} {us : List Value} {vs : List V} {Q : VK} {E : XK}, Room k A → A.guards = some [] → Env0 P w K mg base A outer s H → BindsTo s fd args (ps.zip us) → Vals vs us → sp vs H Q E →
    codeAny (model P w) A (.call (.ref f) args) (CR CX0 outer P w H s Q E) s
section
variable {P : Program} {w : World} {K : PySem.W.Frag} {mg : Str → Option Value} {base : Heap} {f : Addr} {fd : FuncData} {ps : List Str} {sp : Sp}
theorem FnG.mono {j k : Nat} (F : FnG P w K mg base j f fd ps sp) (h : j ≤ k) : FnG P w K mg base k f fd ps sp := ⟨F.len, fun hr => F.go (hr.mono h)⟩
end
section
variable {X : Cx} {k : Nat} {f : Addr} {fd : FuncData} {ps : List Str} {sp : Sp} {x : Str} {p pos : Pos} {e : Expr} {es : List Expr} {E : XK}
theorem run_fnG {pins : List (Addr × Obj)} {σ : L2.St} {H : Hp} {s : Shared} {Q : VK} {us ws : List Value} {vs : List V} {kw : List (Str × Value)} (F : FnG X.prog X.w X.K X.mg X.base k f fd ps sp) (hr : Room k X.A) (hgd : X.A.guards = some [])
    (I : Inv X pins σ H s) (hb : BindsTo s fd ⟨us, kw⟩ (ps.zip ws)) (r : Vals vs ws) (h : sp vs H Q E) : wpAny (model X.prog X.w) X.A (call (.ref f) us kw) (EP X pins σ Q) X.xe s := by
  refine wpAny_call (codeAny_mono (F.go hr hgd I.env0 hb r h) fun res s' out => ?_)
  match res, out with
  | .ok (.ret u), out => exact I.after out
  | .ok .next, out => exact False.elim out
  | .ok .brk, out => exact False.elim out
  | .ok .cont, out => exact False.elim out
  | .error _, out => exact False.elim out
/-- f(a, ..) -/
theorem pe_callG {t : TA} (F : FnG X.prog X.w X.K X.mg X.base k f fd ps sp) (hr : Room k X.A) (hgd : X.A.guards = some []) (hg : Gl X x) (hm : X.mg x = some (.ref f)) (hk : PySem.W.keepIn X.K (.ref f) = true) (hb : Binds X.K fd ps [])
    (ha : PA X (e :: es) t) (hdb : (x == ("__debug__" : Str)) = false) (hs : isStar e = false) (hn : noStars es = true) : PE X (.Call (.Name x p) (e :: es) [] pos) (tCall sp [] E t) := by
  refine ⟨fun pins s σ H Q I h => wpAny_Call_Name_kw (ld_glob I hg hm ?_ hdb)⟩
  refine PySem.W.callWith_K (h₀ := X.base) I.ok.mod.kin hk (thn (ha.run pos pins s σ H _ I h) fun us s1 out => ?_) (star_cons hs) (back_plain hn)
  obtain ⟨vs, H1, I1, r, q⟩ := out
  rw [List.append_nil] at q
  have hl : (us ++ []).length = ps.length := by rw [List.append_nil, ← r.length]; exact F.len _ _ _ _ q
  have b := hb s1 us I1.kIn hl
  rw [List.append_nil] at b
  exact ⟨I1.kIn, run_fnG F hr hgd I1 b r q⟩
/-- f() -/
theorem pe_callG0 (F : FnG X.prog X.w X.K X.mg X.base k f fd ps sp) (hr : Room k X.A) (hgd : X.A.guards = some []) (hg : Gl X x) (hm : X.mg x = some (.ref f)) (hk : PySem.W.keepIn X.K (.ref f) = true) (hb : Binds X.K fd ps [])
    (hdb : (x == ("__debug__" : Str)) = false) : PE X (.Call (.Name x p) [] [] pos) (tCall sp [] E tNil) := by
  refine ⟨fun pins s σ H Q I h => wpAny_Call_Name_kw (ld_glob I hg hm ?_ hdb)⟩
  have q : sp [] H Q E := h
  have b := hb s [] I.kIn (F.len _ _ _ _ q)
  exact PySem.W.callWith_K0 I.kIn hk (run_fnG F hr hgd I b .nil q)
/-- the values in the parameters' order -/
def permL {α : Type} (pm : List Nat) (l : List α) : List α := pm.filterMap fun i => l[i]?
/-- f(a = .., b = ..) -/
def KwB (K : PySem.W.Frag) (fd : FuncData) (ps ks : List Str) (pm : List Nat) : Prop := ∀ (s : Shared) (ws : List Value), K.In s.heap → ws.length = ks.length → BindsTo s fd ⟨[], ks.zip ws⟩ (ps.zip (permL pm ws))
theorem permL_vals {pm : List Nat} {vs : List V} {us : List Value} (r : Vals vs us) : Vals (permL pm vs) (permL pm us) := by
  unfold permL
  induction pm with
  | nil => exact .nil
  | cons i pm ih =>
    rw [List.filterMap_cons, List.filterMap_cons]
    cases h : vs[i]? with
    | none => rw [r.none_of h]; exact ih
    | some v =>
      obtain ⟨u, h1, h2⟩ := r.get h
      rw [h1]
      exact .cons h2 ih
def tCallP (sp : Sp) (pm : List Nat) (n : Nat) (E : XK) (t : TA) : TE := fun σ H Q => t σ H fun vs H1 => vs.length = n ∧ sp (permL pm vs) H1 Q E
theorem pe_callGK {kws : List Keyword} {t : TA} {ks : List Str} {pm : List Nat} (F : FnG X.prog X.w X.K X.mg X.base k f fd ps sp) (hr : Room k X.A) (hgd : X.A.guards = some []) (hg : Gl X x) (hm : X.mg x = some (.ref f)) (hk : PySem.W.keepIn X.K (.ref f) = true) (hb : KwB X.K fd ps ks pm)
    (hkw : PK X kws t) (hdb : (x == ("__debug__" : Str)) = false) (hall : (backToKw pos (keywordEach kws X.env)).all (·.1.isSome) = true) (hks : (backToKw pos (keywordEach kws X.env)).filterMap (·.1) = ks)
    (hpl : ((backTo pos (starEach [] X.env)).any (·.1) || (backToKw pos (keywordEach kws X.env)).any (·.1.isNone)) = false) : PE X (.Call (.Name x p) [] kws pos) (tCallP sp pm ks.length E t) := by
  refine ⟨fun pins s σ H Q I h => wpAny_Call_Name_kw (ld_glob I hg hm ?_ hdb)⟩
  refine PySem.W.callWith_KW0 (h₀ := X.base) I.ok.mod.kin hk hall (thn (hkw.run pos pins s σ H _ I h) fun us s1 out => ?_) hpl
  obtain ⟨vs, H1, I1, r, hl, q⟩ := out
  rw [hks]
  exact ⟨I1.kIn, run_fnG F hr hgd I1 (hb s1 us I1.kIn (by rw [← r.length]; exact hl)) (permL_vals r) q⟩
end
/-! ### several values by places -/
section
variable {K : PySem.W.Frag} {F H : Hp} {σ : L2.St} {fm : Fm}
theorem VsRel.mk : ∀ {vs : List SV} {xs : List V}, vs.length = xs.length → (∀ (k : Nat) (v : SV) (x : V), vs[k]? = some v → xs[k]? = some x → VRel K F H σ fm v x) →
    (∀ (j k : Nat) (c c' : Cell) (x : V), j < k → vs[j]? = some (.fre c) → vs[k]? = some (.fre c') → xs[j]? = some x → xs[k]? ≠ some x) → VsRel K F H σ fm vs xs
  | [], [], _, _, _ => .nil
  | v :: vs, x :: xs, hl, h1, h2 => by
    refine .cons (h1 0 v x rfl rfl) (VsRel.mk (by simpa using hl) (fun k w y e1 e2 => h1 (k + 1) w y (by simpa using e1) (by simpa using e2)) fun j k c c' y hjk e1 e2 e3 => ?_) fun c ec j c' ej => ?_
    · have := h2 (j + 1) (k + 1) c c' y (by omega) (by simpa using e1) (by simpa using e2) (by simpa using e3)
      simpa using this
    · have := h2 0 (j + 1) c c' x (by omega) (by simp [ec]) (by simpa using ej) rfl
      simpa using this
  | [], _ :: _, hl, _, _ => by simp at hl
  | _ :: _, [], hl, _, _ => by simp at hl
theorem VsNew.mk : ∀ {vs : List SV} {xs : List V}, vs.length = xs.length → (∀ (k : Nat) (v : SV) (x : V), vs[k]? = some v → xs[k]? = some x → VNew H v x) → VsNew H vs xs
  | [], [], _, _ => .nil
  | v :: vs, x :: xs, hl, h1 => .cons (h1 0 v x rfl rfl) (VsNew.mk (by simpa using hl) fun k w y e1 e2 => h1 (k + 1) w y (by simpa using e1) (by simpa using e2))
  | [], _ :: _, hl, _ => by simp at hl
  | _ :: _, [], hl, _ => by simp at hl
def okPm (pm : List Nat) (n : Nat) : Bool := decide pm.Nodup && pm.all fun i => decide (i < n)
theorem permL_get {α : Type} {n : Nat} : ∀ {pm : List Nat} {l : List α}, (∀ i ∈ pm, i < n) → l.length = n → ∀ k : Nat, (permL pm l)[k]? = pm[k]?.bind fun i => l[i]?
  | [], _, _, _, k => by simp [permL]
  | i :: pm, l, h, hl, k => by
    have hi : i < l.length := by rw [hl]; exact h i (by simp)
    have e : permL (i :: pm) l = l[i] :: permL pm l := by unfold permL; rw [List.filterMap_cons]; simp [hi]
    rw [e]
    cases k with
    | zero => simp [hi]
    | succ k => simpa using permL_get (n := n) (pm := pm) (fun j hj => h j (by simp [hj])) hl k
theorem permL_len {α : Type} {n : Nat} : ∀ {pm : List Nat} {l : List α}, (∀ i ∈ pm, i < n) → l.length = n → (permL pm l).length = pm.length
  | [], _, _, _ => rfl
  | i :: pm, l, h, hl => by
    have hi : i < l.length := by rw [hl]; exact h i (by simp)
    have e : permL (i :: pm) l = l[i] :: permL pm l := by unfold permL; rw [List.filterMap_cons]; simp [hi]
    rw [e, List.length_cons, List.length_cons, permL_len (n := n) (pm := pm) (fun j hj => h j (by simp [hj])) hl]
def mPermA (pm : List Nat) (n : Nat) (m : MA) : MA := fun fm => match m fm with
  | some (vs, fm1) => if vs.length = n ∧ okPm pm n = true then some (permL pm vs, fm1) else none
  | none => none
theorem tA_perm {pm : List Nat} {n : Nat} {m : MA} {R : List V → Hp → Prop} (h : tA K (mPermA pm n m) σ H R) : tA K m σ H fun xs H1 => xs.length = n ∧ R (permL pm xs) H1 := by
  obtain ⟨F, fm, ws, fm', rel, em, q⟩ := h
  unfold mPermA at em
  split at em
  · rename_i vs fm1 e1
    split at em
    · rename_i hc
      cases em
      refine ⟨F, fm, vs, _, rel, e1, fun xs F1 H1 A V N => ?_⟩
      have hx : xs.length = n := by rw [← V.len]; exact hc.1
      have ho : pm.Nodup ∧ ∀ i ∈ pm, i < n := by
        have := hc.2
        unfold okPm at this
        simpa using this
      have gv := permL_get (l := vs) ho.2 hc.1
      have gx := permL_get (l := xs) ho.2 hx
      have hlen : (permL pm vs).length = (permL pm xs).length := by rw [permL_len ho.2 hc.1, permL_len ho.2 hx]
      refine ⟨hx, q _ F1 H1 A (VsRel.mk hlen (fun k v x e1 e2 => ?_) fun j k c c' x hjk e1 e2 e3 e4 => ?_) (VsNew.mk hlen fun k v x e1 e2 => ?_)⟩
      · rw [gv] at e1; rw [gx] at e2
        obtain ⟨i, hi, e1⟩ := Option.bind_eq_some_iff.mp e1
        rw [hi] at e2
        obtain ⟨y, hy, Vy⟩ := V.get e1
        have e2 : xs[i]? = some x := e2
        rw [hy] at e2; cases e2
        exact Vy
      · rw [gv] at e1 e2; rw [gx] at e3 e4
        obtain ⟨a, ha, e1⟩ := Option.bind_eq_some_iff.mp e1
        obtain ⟨b, hb, e2⟩ := Option.bind_eq_some_iff.mp e2
        rw [ha] at e3; rw [hb] at e4
        have e3 : xs[a]? = some x := e3
        have e4 : xs[b]? = some x := e4
        have ne : a ≠ b := fun z => by
          subst z
          obtain ⟨h1, g1⟩ := List.getElem?_eq_some_iff.mp ha
          obtain ⟨h2, g2⟩ := List.getElem?_eq_some_iff.mp hb
          exact (List.pairwise_iff_getElem.mp ho.1) j k h1 h2 hjk (by rw [g1, g2])
        rcases Nat.lt_or_gt_of_ne ne with hab | hab
        · exact V.apart hab e1 e2 e3 e4
        · exact V.apart hab e2 e1 e4 e3
      · rw [gv] at e1; rw [gx] at e2
        obtain ⟨i, hi, e1⟩ := Option.bind_eq_some_iff.mp e1
        rw [hi] at e2
        have e2 : xs[i]? = some x := e2
        exact N.get e1 e2
    · cases em
  · cases em
end
end Rf

/-! Rh2: a def's body; the law's call. -/
namespace Rf
open PySem PySem.Spec PyProof.Rows L2

section
variable {P : Program} {w : World} {K : PySem.W.Frag} {mg : Str → Option Value} {base : Heap}
theorem fnG_ok {x qual : Str} {st : Stmt} {f : Addr} {fd : FuncData} {N ps : List Str} {k : Nat} {ro : List Nat} {m : MS} (Fn : Fun K x qual st f fd) (S : FnScope N ps (defScope st)) (hro : ∀ i ∈ ro, i < ps.length)
    (hb : ∀ (cdv : Value) (A : Around) (outer : List Env) (s : Shared) (H : Hp) (E : XK), Room k (A.deeper (envOfC qual (defScope st) s.heap.objs.size f cdv)) → A.guards = some [] →
      SSs (cxOf CX0 P w K mg base N qual (defScope st) f cdv A outer s H E).nox ro (defBody st) m) :
    FnG P w K mg base (k + 1) f fd ps (spM K (mkD ps.length N.length ro m)) := by
  obtain ⟨oc, od, kV, doc, pm, an, cdv, ct, osl, rfl, lk, hcd⟩ := Fn.ex
  have hlen : ∀ (vs : List V) (H : Hp) (Q : VK) (E : XK), spM K (mkD ps.length N.length ro m) vs H Q E → vs.length = ps.length := fun vs H Q E h => by
    obtain ⟨F, as, r, outs, R, em, _⟩ := h
    have e := R.len
    rw [List.length_map, List.length_map] at e
    unfold mkD at em
    split at em
    · rename_i hn; rw [← e]; exact hn
    · cases em
  refine ⟨hlen, fun {A outer s H args us vs Q E} hr hgd e0 bt r hsp => ?_⟩
  have hl := hlen _ _ _ _ hsp
  have kin : K.In s.heap := e0.mod.kin.keeps fun b o e => (e0.bs b o e).1
  have lim : s.heap.NoLimit := e0.mod.nolimit.keeps fun b o e => (e0.bs b o e).1
  have kinds : ∀ y ∈ ps.zip us, (defScope st).names.lookup y.1 = some .local ∨ ((defScope st).names.lookup y.1 = some .cell ∧ ((cellsFrom (s.heap.objs.size + 1) (defScope st).names []).lookup y.1).isSome = true) := by
    rintro ⟨n, v⟩ hy
    rcases S.par n (List.of_mem_zip hy).1 with q | q
    · exact .inl q
    · exact .inr ⟨q, PySem.W.cellsFrom_some _ _ _ (.inl q)⟩
  refine codeAny_call_function hr.depth (kin _ _ lk) rfl S.co S.gen rfl (PySem.W.codeRec_of kin hcd) (bt _ _ _ _ ?_)
  refine wpAny_newFunctionEnv_cells S.kind kinds fun env he s1 inc => ?_
  subst he
  refine ⟨lim.keeps inc.toInCall.keep, codeAny_func ?_⟩
  have I : Inv (cxOf CX0 P w K mg base N qual (defScope st) f cdv A outer s H E) [] (L2.start N vs) H s1 := inv_start S hr.hd e0 hl r inc
  have body : PSs (cxOf CX0 P w K mg base N qual (defScope st) f cdv A outer s H E) (defBody st) (tS K ro m) := PSs.nox (hb cdv A outer s H E (hr.deeper _) hgd)
  have start : tS K ro m { nx := fun _ H' => Q .non H', rt := Q } (L2.start N vs) H := by
    obtain ⟨F, as, rr, outs, R, em, q⟩ := hsp
    have e := R.len
    rw [List.length_map, List.length_map] at e
    have hn : as.length = ps.length := e.trans hl
    have b := body_ok (x := x) R hn q em hro
    unfold L2.start
    rw [← e, hn]
    exact b
  refine wpAny_mono (body.run [] s1 (L2.start N vs) H _ I start) (fun fl s' out => ?_) fun _ _ out => out
  match fl, out with
  | .ret u, ⟨v, σ', H', J, rv, q⟩ => exact ⟨v, H', J.os, J.bare, J.base, J.hok, rv, q⟩
  | .next, ⟨σ', H', J, q⟩ => exact ⟨.non, H', J.os, J.bare, J.base, J.hok, rfl, q⟩
  | .brk, ⟨_, _, _, q⟩ => exact False.elim q
  | .cont, ⟨_, _, _, q⟩ => exact False.elim q
end
end Rf

/-! Rh3: the law's call, from the meaning of its def. -/
namespace Rf
open PySem PySem.Spec PyProof.Rows L2

/-- the script as data -/
def scr (ns : List Int) : PyData := .list (ns.map .int)
theorem spM_law {K : PySem.W.Frag} {H : Hp} {a : Addr} {ns : List Int} {D : Dm} {E : XK} (hs : SqL K H a (ns.map V.int)) (h : ∃ outs, D [.dat (scr ns)] = some (.dat (.bool true), outs)) : spM K D [.ref a] H (fun v _ => v = .bl true) E := by
  obtain ⟨outs, h⟩ := h
  refine ⟨H, [.dat (scr ns)], _, outs, ⟨Same.refl _, rfl, fun i d hi => ?_, fun i c hi => ?_, fun i j c c' p _ hi => ?_⟩, h, fun x F' H' _ V _ => ?_⟩
  · cases i with
    | zero =>
      have e : d = scr ns := by simpa [fA] using hi.symm
      subst e
      exact ⟨.ref a, rfl, .lst hs (ints_dq ns)⟩
    | succ i => simp [fA] at hi
  · cases i with
    | zero => simp [fA] at hi
    | succ i => simp [fA] at hi
  · cases i with
    | zero => simp [fA] at hi
    | succ i => simp [fA] at hi
  · cases (show Dq K F' x (.bool true) from V)
    rfl
section
variable {P : Program} {w : World} {K : PySem.W.Frag} {mg mb : Str → Option Value} {k : Nat} {fa a : Addr} {fd : FuncData} {x : Str} {sp : Sp} {s₁ : Shared} {vs : List Value} {ns : List Int}
/-- from an abstract heap that tracks nothing but the script -/
theorem law_coreG (H : Hp) (kx : K.In s₁.heap) (g : s₁.heap.Ns mainGlobals mg) (b : s₁.heap.Ns builtinsNs mb) (bb : ∀ x : Str, x ≠ "__name__" → mb x = bootBuiltins x) (lim : s₁.heap.NoLimit) (gens : s₁.gens = #[])
    (at_ : s₁.heap.get? a = some { cls := .type "list", data := .seq vs.toArray }) (hr : Room k callerA) (F : ∀ base : Heap, K.In base → base.Ns mainGlobals mg → FnG P w K mg base k fa fd [x] sp)
    (hbind : ∀ (s : Shared) (u : Value), BindsTo s fd ⟨[u], []⟩ [(x, u)]) (hO : Only H) (hsp : sp [.ref a] H (fun v _ => v = .bl true) fun _ _ _ => False) (hok : HOk P w H s₁.heap) (one : ∀ b, H b ≠ none → b = a) (out : H a ≠ none → K.lookup a = none) :
    codeAny (model P w) callerA (.call (.ref fa) ⟨[.ref a], []⟩) (fun r s' => r = .ok (.ret (.bool true)) ∧ OldK s₁.heap s'.heap ∧ s'.os = s₁.os ∧ AllBare s'.gens) s₁ := by
  have free : ∀ {c : Addr} {o : Obj}, s₁.heap.get? c = some o → (∀ vs' n, o.data ≠ .seq vs' n) → H c = none := fun {c o} e d => by
    cases q : H c with
    | none => rfl
    | some u =>
      have z := one c (by rw [q]; exact fun z => nomatch z)
      subst z
      rw [at_] at e
      cases e
      exact absurd rfl (d _ _)
  have ns' : ∀ {c : Addr} {m : Str → Option Value}, s₁.heap.Ns c m → (hidT s₁.heap H).Ns c m := fun {c m} z => by
    obtain ⟨o, es, ep, e, d, r⟩ := z
    exact ⟨o, es, ep, hidT_get e (free e fun vs' n z => by rw [d] at z; cases z), d, r⟩
  have kb : K.In (hidT s₁.heap H) := fun c o e => by
    refine hidT_get (kx c o e) ?_
    cases q : H c with
    | none => rfl
    | some u =>
      have z := one c (by rw [q]; exact fun z => nomatch z)
      subst z
      have := out (by rw [q]; exact fun z => nomatch z)
      rw [this] at e
      cases e
  have limb : (hidT s₁.heap H).NoLimit := by
    obtain ⟨mc, h1, h2⟩ := lim
    exact ⟨mc, ns' h1, h2⟩
  have e0 : Env0 P w K mg (hidT s₁.heap H) callerA [] s₁ H := by
    refine ⟨rfl, ⟨kb, ns' g, ⟨mb, ns' b, bb⟩, limb⟩, fun c o e => of_hidT e, Nat.le_of_eq (hidT_size _ _), trivial, fun c hc => ?_, hok, .of_eq gens⟩
    exact absurd (show c ∈ ([] : List Addr) from hc) (by simp)
  refine codeAny_mono ((F _ kb (ns' g)).go (us := [.ref a]) (vs := [.ref a]) hr rfl e0 (hbind s₁ (.ref a)) (.cons rfl .nil) hsp) fun r s' res => ?_
  match r, res with
  | .error _, res => exact False.elim res
  | .ok .next, res => exact False.elim res
  | .ok .brk, res => exact False.elim res
  | .ok .cont, res => exact False.elim res
  | .ok (.ret u), ⟨v, H', os, bare, un, hok', rv, q⟩ =>
    cases (show v = .bl true from q)
    obtain rfl : u = Value.bool true := rv
    refine ⟨rfl, OldK.of_keep fun c o e => ?_, os, bare⟩
    cases z : H c with
    | none => exact un.keep c o e z (fun z => absurd (show c ∈ ([] : List Addr) from z) (by simp)) (by simp)
    | some u =>
      rcases hO c with y | ⟨ob, xs, y⟩
      · rw [z] at y; cases y
      · have e1 := (hok c _ y).1
        have e2 := (hok' c _ (un.frzs c ob _ y)).1
        rw [e] at e1; cases e1
        exact e2
theorem law_callG (kx : K.In s₁.heap) (g : s₁.heap.Ns mainGlobals mg) (b : s₁.heap.Ns builtinsNs mb) (bb : ∀ x : Str, x ≠ "__name__" → mb x = bootBuiltins x) (lim : s₁.heap.NoLimit) (gens : s₁.gens = #[])
    (at_ : s₁.heap.get? a = some { cls := .type "list", data := .seq vs.toArray }) (hi : IntsAre vs ns) (hl : ns.length ≤ sizeLine) (hr : Room k callerA) (F : ∀ base : Heap, K.In base → base.Ns mainGlobals mg → FnG P w K mg base k fa fd [x] sp)
    (hbind : ∀ (s : Shared) (u : Value), BindsTo s fd ⟨[u], []⟩ [(x, u)]) (hsp : ∀ H : Hp, Only H → SqL K H a (ns.map V.int) → sp [.ref a] H (fun v _ => v = .bl true) fun _ _ _ => False) :
    codeAny (model P w) callerA (.call (.ref fa) ⟨[.ref a], []⟩) (fun r s' => r = .ok (.ret (.bool true)) ∧ OldK s₁.heap s'.heap ∧ s'.os = s₁.os ∧ AllBare s'.gens) s₁ := by
  have rv := vals_ints hi
  have hn := hi.length
  cases hk : K.lookup a with
  | some o =>
    have e := kx a o hk
    rw [at_] at e
    cases e
    have sq : SqL K (fun _ => none) a (ns.map V.int) := .inr ⟨_, vs.toArray, _, hk, rfl, rfl, rfl, by rw [List.size_toArray, hn]; exact hl, by simpa using rv⟩
    have ho : Only (fun _ => none) := fun _ => .inl rfl
    exact law_coreG (fun _ => none) kx g b bb lim gens at_ hr F hbind ho (hsp _ ho sq) (fun c u z => nomatch (show (none : Option HO) = some u from z)) (fun c z => absurd rfl z) fun z => absurd rfl z
  | none =>
    have ho : Only (upd (fun _ => none) a (.frz { cls := .type "list", data := .seq vs.toArray } (.lst (ns.map V.int)))) := fun c => by
      by_cases z : c = a
      · subst z; exact .inr ⟨_, _, upd_same⟩
      · exact .inl (by rw [upd_ne z])
    refine law_coreG _ kx g b bb lim gens at_ hr F hbind ho (hsp _ ho (.inl (.inr ⟨_, upd_same⟩))) (fun c u z => ?_) (fun c z => ?_) fun _ => hk
    · by_cases e : c = a
      · subst e
        rw [upd_same] at z
        cases z
        exact ⟨at_, by rw [List.length_map]; exact hl, vs, _, rv, at_⟩
      · rw [upd_ne e] at z; cases z
    · by_cases e : c = a
      · exact e
      · rw [upd_ne e] at z; exact absurd rfl z
end
theorem walk_ofG {l : PySem.W.OpenLaw} {n k : Nat} {q : Program} {loose : List Str} {XP : (Str → Option Value) → Heap → Prop} {YP : World → Heap → Prop} {d : DefRec} {K : Params → PySem.W.Frag} {x : Str} {D : Dm}
    (hn : l.most = some n) (hn2 : n ≤ sizeLine) (hdf : d.params.defaults = []) (hr : Room k callerA) (hY : ∀ (w : World) (h : Heap), YP w h → (K w.params).In h)
    (F : ∀ (w : World) (mg : Str → Option Value) (fa : Addr) (h : Heap), (K w.params).In h → h.Ns mainGlobals mg → mg d.name = some (.ref fa) →
      ∃ fd : FuncData, (∀ (s : Shared) (u : Value), BindsTo s fd ⟨[u], []⟩ [(x, u)]) ∧ ∀ base : Heap, (K w.params).In base → base.Ns mainGlobals mg → FnG l.prog w (K w.params) mg base k fa fd [x] (spM (K w.params) D))
    (hD : ∀ ns : List Int, ns.length ≤ n → ∃ outs, D [.dat (scr ns)] = some (.dat (.bool true), outs)) : PySem.W.WalkO q loose XP YP l.row.toRowW d [] (fun f vs => PySem.call f vs) := by
  refine Att.attach_call hn hdf fun w s₀ s₁ mg mb fa o pm cd doc a vs ns G Y ho hd hcd hmg hobj hints hlen hg => ?_
  have kx := hY w _ Y
  obtain ⟨fd, hb, hF⟩ := F w mg fa _ kx G.T.g hmg
  exact law_callG kx G.T.g G.T.b G.T.builtins G.T.nolimit hg hobj hints (Nat.le_trans hlen hn2) hr hF hb fun H _ hS => spM_law hS (hD ns hlen)
end Rf

/-! Ri1: insert, xs[::-1], xs[a:b] = ys, sorted(set(t)), t * n, tuple(range(a, b)). -/
namespace Rf
open PySem PySem.Spec PyProof.Rows L2

section
variable {K : PySem.W.Frag}
def rIns : V → List V → Hp → VK → Prop := fun x vs H Q => ∃ (l : Addr) (xs : List V) (i : Int) (y : V), x = .ref l ∧ vs = [.int i, y] ∧ H l = some (.lst xs) ∧ xs.length < sizeLine ∧ 0 ≤ i ∧ i < 2 ^ 63 ∧ Q .non (upd H l (.lst (xs.take i.toNat ++ [y] ++ xs.drop i.toNat)))
theorem p_insert : PrimZ K rIns fInsert := by
  intro F H σ fm fm' o ds x xs v R V D h Q q
  unfold fInsert at h
  split at h
  · rename_i i k d
    obtain ⟨hx, _⟩ := V
    cases D with
    | cons D1 D2 =>
      cases D2 with
      | cons D2 D3 =>
        cases D3
        cases D1
        split at h
        · rename_i es hi
          split at h
          · rename_i hl
            cases h
            obtain ⟨p, vs, rfl, hs, hp, r⟩ := R.ownL hi hx
            refine ⟨p, vs, k, _, rfl, rfl, hp, by rw [dpAll_len r]; exact hl.1, hl.2.1, hl.2.2, ?_⟩
            exact q _ F _ (Aft.write R hi hs (dpAll_app (dpAll_app (dpAll_take _ r) (.cons D2 .nil)) (dpAll_drop _ r))) .non VNew.dat
          · cases h
        · cases h
  · cases h
end
/-! ### xs[::-1] -/
section
variable {prog : Program} {w : World} {A : Around} {E : Value → Shared → Prop} {s : Shared}
theorem fm_congr {α β : Type} {f g : α → Option β} : ∀ {l : List α}, (∀ a ∈ l, f a = g a) → l.filterMap f = l.filterMap g
  | [], _ => rfl
  | a :: l, h => by
    rw [List.filterMap_cons, List.filterMap_cons, h a (by simp), fm_congr fun b hb => h b (by simp [hb])]
theorem back_pick (xs : Array Value) : ((List.range xs.size).filterMap fun (k : Nat) => xs[((xs.size : Int) - 1 + (k : Int) * -1).toNat]?).toArray = xs.toList.reverse.toArray := by
  congr 1
  have e : ((List.range xs.size).filterMap fun (k : Nat) => xs[((xs.size : Int) - 1 + (k : Int) * -1).toNat]?) = (List.range xs.size).map fun k => xs.toList.reverse.getD k .none := by
    rw [← List.filterMap_eq_map]
    refine fm_congr fun k hk => ?_
    have hk := List.mem_range.mp hk
    have e1 : ((xs.size : Int) - 1 + (k : Int) * -1).toNat = xs.size - 1 - k := by omega
    rw [e1, Array.getElem?_eq_getElem (by omega)]
    show some _ = some _
    congr 1
    show _ = xs.toList.reverse.getD k .none
    rw [List.getD_eq_getElem?_getD, List.getElem?_reverse (by simpa using hk)]
    simp only [Array.length_toList]
    rw [Array.getElem?_toList, Array.getElem?_eq_getElem (by omega)]
    rfl
  rw [e]
  refine List.ext_getElem (by simp) fun i h1 h2 => ?_
  simp only [List.getElem_map, List.getElem_range]
  rw [List.getD_eq_getElem?_getD, List.getElem?_eq_getElem h2]
  rfl
theorem tuple_back {t sl : Addr} {items : Array Value} {vl vu vk : Value} {Q : Value → Shared → Prop} (ht : IsTup s.heap t items) (hs : s.heap.IsSliceOf sl vl vu vk) (pl : IsPart vl none) (pu : IsPart vu none) (pk : IsPart vk (some (-1)))
    (h : Q (.ref s.heap.objs.size) { s with heap := s.heap.push { cls := .type "tuple", data := .seq items.toList.reverse.toArray } }) (hsz : items.size ≤ sizeLine) : wpAny (model prog w) A (getItem (.ref t) (.ref sl)) Q E s := by
  have fits : sizeOk (.seq items.toList.reverse.toArray) := by
    show items.toList.reverse.toArray.size ≤ sizeLine
    simpa using hsz
  obtain ⟨os, hos, hcs, hds⟩ := id hs
  have isS : s.TypeIs (.ref sl) "slice" := ⟨os, hos, hcs⟩
  unfold getItem
  try with_reducible refine wpAny_holding ?_
  first
    | refine wpAny_bind (wpAny_pure ?_)
    | skip
  refine wpAny_bind (wpAny_sequenceKey ht.typeIs (by decide) (wpAny_bind (wpAny_callSpecial?_slot (name := Str.ofString "__getitem__") ht.typeIs PyProof.Rows.slot_tuple_getitem (wpAny_call_entry PyProof.Rows.slot_tuple_getitem ht.typeIs entry_tuple_getitem ?_ (args_tuple_getitem _ _)))))
  show wpAny _ _ (Builtin.Tuple.tupleItemsOf (.ref t) >>= _) _ _ s
  refine wpAny_bind (tupleItemsOf_ ht (wpAny_bind (wpAny_typeOf isS ?_)))
  rw [if_pos (by decide)]
  have applied : ∀ {Q' : Int × Int × Nat → Shared → Prop}, Q' ((items.size : Int) - 1, -1, items.size) s → wpAny (model prog w) A.in1 (Builtin.Slice.sliceApplied (.ref sl) (pure (items.size : Int))) Q' E s := fun {Q'} q => by
    unfold Builtin.Slice.sliceApplied Builtin.Slice.sliceFields
    refine wpAny_bind (wpAny_bind (wpAny_field hos hds (x := vl) rfl (wpAny_bind (wpAny_field hos hds (x := vu) rfl (wpAny_bind (wpAny_field hos hds (x := vk) rfl (wpAny_pure ?_)))))))
    refine wpAny_bind (HT.slicePart_ pk ?_)
    show wpAny _ _ (if ((-1 : Int) == 0) = true then _ else _) _ _ s
    rw [if_neg (by decide)]
    refine wpAny_bind (HT.slicePart_ pl (wpAny_bind (HT.slicePart_ pu (wpAny_bind (wpAny_pure ?_)))))
    have e : Builtin.Slice.slicePlaces ((items.size : Int) - 1) (-1) (-1) = items.size := by
      unfold Builtin.Slice.slicePlaces
      have h1 : ¬ ((-1 : Int) > 0) := by omega
      simp only [h1, if_false, Int.neg_neg, Int.ediv_one]
      split <;> omega
    show wpAny _ _ (pure (((items.size : Int) - 1), (-1 : Int), Builtin.Slice.slicePlaces ((items.size : Int) - 1) (-1) (-1))) _ _ s
    rw [e]
    exact wpAny_pure q
  refine wpAny_bind (applied ?_)
  have no : ¬ ((((items.size : Int) - 1) == 0 && (-1 : Int) == 1 && items.size == items.size) = true) := by simp
  show wpAny _ _ (if (((items.size : Int) - 1) == 0 && (-1 : Int) == 1 && items.size == items.size) = true then _ else _) _ _ s
  rw [if_neg no, back_pick]
  first
    | exact wpAny_bind (m := Builtin.Tuple.tupleExact _) (wpAny_newObj_type (wpAny_pure ⟨_, rfl, wpAny_pure h⟩) fits)
    | exact wpAny_bind (m := Builtin.Tuple.tupleExact _) (wpAny_newObj_type (wpAny_bind (wpAny_pure (wpAny_pure ⟨_, rfl, wpAny_pure h⟩))) fits)
    | exact wpAny_bind (wpAny_bind (m := Builtin.Tuple.tupleExact _) (wpAny_newObj_type (wpAny_pure (wpAny_pure ⟨_, rfl, wpAny_pure h⟩)) fits))
    | exact wpAny_bind (wpAny_bind (m := Builtin.Tuple.tupleExact _) (wpAny_newObj_type (wpAny_pure ⟨_, rfl, wpAny_pure h⟩) fits))
end
/-- xs[::-1]: a list | a tuple -/
def rBack (K : PySem.W.Frag) (x : V) (H : Hp) (Q : VK) : Prop := (∃ a xs, x = .ref a ∧ SqL K H a xs ∧ ∀ p, H p = none → Q (.ref p) (upd H p (.lst xs.reverse))) ∨ ∃ a xs, x = .ref a ∧ SqT K H a xs ∧ rNewP xs.reverse H Q
section
variable {X : Cx}
theorem pe_back {e : Expr} {te : TE} {k : Nat} {p1 p2 p3 pos : Pos} (he : PE X e te) : PE X (.Subscript e (.Slice none none (some (.UnaryOp .USub (.Constant (.int 1) k p1) p2)) p3) pos) (fun σ H Q => te σ H fun x H1 => rBack X.K x H1 Q) := by
  refine ⟨fun pins s σ H Q I h => Subscript_ (thn (he.run pins s σ H _ I h) fun v s1 got => ?_)⟩
  obtain ⟨x, H1, I1, r1, q⟩ := got
  have hst : PO X (some (.UnaryOp .USub (.Constant (.int 1) k p1) p2)) (tPart (tUn (rU fun i => .int (-i)) (tC (.int 1)))) := po_some (pe_un un_neg pe_int)
  refine wpAny_Slice (thn (po_none.run pins s1 σ H1 (fun o H2 => o = none ∧ H2 = H1) I1 ⟨rfl, rfl⟩) fun vl s2 g2 => ?_)
  obtain ⟨l, H2, I2, pl, rfl, rfl⟩ := g2
  refine thn (po_none.run pins s2 σ H2 (fun o H3 => o = none ∧ H3 = H2) I2 ⟨rfl, rfl⟩) fun vu s3 g3 => ?_
  obtain ⟨u, H3, I3, pu, rfl, rfl⟩ := g3
  refine thn (hst.run pins s3 σ H3 (fun o H4 => o = some (-1) ∧ H4 = H3) I3 ⟨1, rfl, -1, rfl, rfl, rfl⟩) fun vs s4 g4 => ?_
  obtain ⟨o, H4, I4, ps, rfl, rfl⟩ := g4
  have I5 : Inv X pins σ H4 { s4 with heap := s4.heap.push { cls := .type "slice", data := .fields #[vl, vu, vs] } } := I4.kept (t' := s4.toks) fun b ob q => Heap.get?_push_of_some _ q
  rcases q with ⟨a, xs, rfl, hx, q⟩ | ⟨a, xs, rfl, hx, q⟩
  · cases r1
    obtain ⟨its, r, ht, hz⟩ := I5.list hx
    have hlen := r.length
    show wpAny (model X.prog X.w) X.A (subscriptTail e (.Slice none none (some (.UnaryOp .USub (.Constant (.int 1) k p1) p2)) p3) (.ref a) (.ref s4.heap.objs.size)) (EP X pins σ Q) X.xe _
    refine tail_any (ops := [.ref a, .ref s4.heap.objs.size]) ht.isList.typeIs (PySem.slot_list_getitem.lookup) (wpAny_getItem_list_slice ht.isList (Heap.IsSliceOf.new _ vl vu vs) pl pu ps (by decide) ?_ (by rw [List.size_toArray]; omega)) (by with_unfolding_all rfl)
    rw [PySem.W.krv_pick]
    refine ⟨.ref _, _, I5.laid (t' := s4.toks) (o := .lst xs.reverse) (fun b ob q => Heap.get?_push_of_some _ q) (Nat.le_refl _) ?_, rfl, q _ (I5.hok.fresh (Nat.le_refl _))⟩
    refine ⟨?_, its.reverse, 0, r.reverse, Heap.get?_push_size _ rfl⟩
    rw [List.length_reverse]; exact hz
  · cases r1
    obtain ⟨its, r, ht, hz⟩ := I5.tuple hx
    have hlen := r.length
    show wpAny (model X.prog X.w) X.A (subscriptTail e (.Slice none none (some (.UnaryOp .USub (.Constant (.int 1) k p1) p2)) p3) (.ref a) (.ref s4.heap.objs.size)) (EP X pins σ Q) X.xe _
    refine tail_any (ops := [.ref a, .ref s4.heap.objs.size]) ht.typeIs (PyProof.Rows.slot_tuple_getitem.lookup) (tuple_back ht (Heap.IsSliceOf.new _ vl vu vs) pl pu ps ?_ (by rw [List.size_toArray]; omega)) (by with_unfolding_all rfl)
    exact ⟨.ref _, _, inv_newP (t' := s4.toks) I5 (r.reverse) (by rw [List.length_reverse]; exact hz) (by simp), rfl, q _ _ (I5.hok.fresh (Nat.le_refl _)) rfl⟩
def fBack : F1 := fun v fm => match peek v fm with
  | some (.list ds) => some (.fre (.lst ds.reverse), fm)
  | some (.tuple ds) => some (.dat (.tuple ds.reverse), fm)
  | _ => none
theorem p_back {K : PySem.W.Frag} : Prim1 K (rBack K) fBack := by
  intro F H σ fm fm' va x v R Va h Q q
  unfold fBack at h
  split at h
  · rename_i ds h1
    cases h
    obtain ⟨a, ys, rfl, s1, r1⟩ := peek_list R Va h1
    exact .inl ⟨a, ys, rfl, s1, fun p hp => q _ F _ (Aft.lay R hp) (Aft.newL R hp (dpAll_rev r1)) (VNew.ref hp)⟩
  · rename_i ds h1
    cases h
    obtain ⟨a, ys, rfl, s1, r1⟩ := peek_tup R Va h1
    exact .inr ⟨a, ys, rfl, s1.1, fun p o hp hd => q _ _ _ (Aft.layF R hp) (Aft.newT R hp hd (dpAll_rev r1)) VNew.dat⟩
  · cases h
theorem se_back {e : Expr} {m : ME} {k : Nat} {p1 p2 p3 pos : Pos} (h : SE X e m) : SE X (.Subscript e (.Slice none none (some (.UnaryOp .USub (.Constant (.int 1) k p1) p2)) p3) pos) (m1 fBack m) := pe_le (pe_back h) fun σ H Q h => tE_1 p_back h
end
end Rf

/-! Ri2: xs[a:b] = ys. -/
namespace Rf
open PySem PySem.Spec PyProof.Rows L2

section
variable {prog : Program} {w : World} {A : Around} {E : Value → Shared → Prop} {s : Shared}
theorem bounds_up {a c : Int} {n : Nat} (h0 : 0 ≤ a) (hac : a ≤ c) : sliceBounds (some a) (some c) none n = (((min a.toNat n : Nat) : Int), ((min c.toNat n : Nat) : Int), 1) := by
  obtain ⟨h1, h2, h3⟩ := slice_bounds (some a) (some c) n
  have e1 : HT.sIx n 0 (some a) = min a.toNat n := by
    show (if a < 0 then _ else _) = _
    rw [if_neg (by omega)]
  have e2 : HT.sIx n n (some c) = min c.toNat n := by
    show (if c < 0 then _ else _) = _
    rw [if_neg (by omega)]
  rw [e1] at h1
  rw [e2] at h2
  exact Prod.ext h1 (Prod.ext h2 h3)
set_option maxRecDepth 100000 in
theorem splice_store {l b sl : Addr} {items new : Array Value} {n : Nat} {vl vu : Value} {a c : Int} {ob : Obj} {n2 : Nat} {Q : Unit → Shared → Prop} (el : s.heap.get? l = some { cls := .type "list", data := .seq items n })
    (eb : s.heap.get? b = some ob) (cb : ob.cls = .type "list") (db : ob.data = .seq new n2) (ne : l ≠ b) (hs : s.heap.IsSliceOf sl vl vu .none) (pl : IsPart vl (some a)) (pu : IsPart vu (some c)) (h0 : 0 ≤ a) (hac : a ≤ c) (fits : items.size + new.size ≤ sizeLine)
    (h : Q () { s with heap := s.heap.update l (Obj.mapSeq fun xs => xs.extract 0 (min a.toNat items.size) ++ new ++ xs.extract (min c.toNat items.size) xs.size) }) : wpAny (model prog w) A (setItem (.ref l) (.ref sl) (.ref b)) Q E s := by
  have isL : s.heap.IsList l items := PySem.IsL.isList el
  have isB : s.heap.IsList b new := ⟨ob, eb, cb, n2, db⟩
  obtain ⟨os, hos, hcs, hds⟩ := id hs
  have isS : s.TypeIs (.ref sl) "slice" := ⟨os, hos, hcs⟩
  have step : ¬ ((rawPart none == rawInt 0) = true) := Bool.false_ne_true
  have other : Builtin.List.listSameRef (.ref l) (.ref b) = false := by unfold Builtin.List.listSameRef; exact beq_eq_false_iff_ne.mpr ne
  have top : (max (((min a.toNat items.size : Nat)) : Int) (((min c.toNat items.size : Nat)) : Int)).toNat = min c.toNat items.size := by omega
  have small : ((fun xs : Array Value => xs.extract 0 (min a.toNat items.size) ++ new ++ xs.extract (min c.toNat items.size) xs.size) items).size ≤ sizeLine + 1 := by simp only [Array.size_append, Array.size_extract]; omega
  unfold setItem
  try with_reducible refine wpAny_holding ?_
  first
    | refine wpAny_bind (wpAny_pure ?_)
    | skip
  refine wpAny_bind (wpAny_sequenceKey isL.typeIs (by decide) (wpAny_bind (wpAny_callSpecial?_slot (name := Str.ofString "__setitem__") isL.typeIs slot_list_setitem (wpAny_call_entry slot_list_setitem isL.typeIs entry_list_setitem ?_ (args_list_setitem _ _ _)))))
  show wpAny _ _ (Builtin.List.listSubscript? (.ref sl) >>= _) _ _ s
  refine wpAny_bind ?_
  unfold Builtin.List.listSubscript?
  refine wpAny_bind (wpAny_specialOf isS slice_no_index ?_)
  simp only [Option.isNone_none, if_true]
  refine wpAny_pure ?_
  show wpAny _ _ (typeOf (.ref sl) >>= _) _ _ s
  refine wpAny_bind (wpAny_typeOf isS ?_)
  first
    | refine PySem.W.KFB.if_not (by decide) ?_
    | rw [if_neg (by decide)]
  rw [listSliceParts_eq]
  refine wpAny_bind (wpAny_bind (wpAny_field hos hds (x := .none) rfl (wpAny_bind (wpAny_listPart .none ?_))))
  rw [if_neg step]
  refine wpAny_bind (wpAny_field hos hds (x := vl) rfl (wpAny_bind (wpAny_listPart pl (wpAny_bind (wpAny_field hos hds (x := vu) rfl (wpAny_bind (wpAny_listPart pu (wpAny_pure ?_))))))))
  first
    | refine PySem.W.KFB.if_not other ?_
    | simp only [other, Bool.false_eq_true, if_false]
  refine wpAny_bind (m := Builtin.List.listAllItems (.ref b) "must assign iterable to extended slice") ?_
  unfold Builtin.List.listAllItems
  refine wpAny_bind (wpAny_typeOf isB.typeIs ?_)
  first
    | refine PySem.W.KFB.if_so (by decide) ?_
    | rw [if_pos (by decide)]
  unfold Builtin.List.listItems
  refine wpAny_bind (wpAny_seqItems eb db (wpAny_pure (wpAny_bind (wpAny_bind (wpAny_seqItems el rfl (wpAny_pure ?_))))))
  refine wpAny_bind (wpAny_of_eq ((sliceIndices_raw (some a) (some c) none items.size (by simp)).trans (congrArg (pure : Int × Int × Int → Sem (Int × Int × Int)) (bounds_up h0 hac))) ?_)
  show wpAny _ _ (if ((1 : Int) == 1) = true then _ else _) _ _ s
  rw [if_pos (by decide)]
  refine wpAny_bind (wpAny_rule ?_)
  first
    | refine PySem.W.KFB.if_not (notLongL fits) ?_
    | simp only [notLongL fits, Bool.false_eq_true, if_false]
  first
    | refine wpAny_bind (wpAny_pure ?_)
    | skip
  show wpAny _ _ (updateSeq l (fun xs => xs.extract 0 (((min a.toNat items.size : Nat)) : Int).toNat ++ new ++ xs.extract (max (((min a.toNat items.size : Nat)) : Int) (((min c.toNat items.size : Nat)) : Int)).toNat xs.size) >>= _) _ _ s
  rw [top, Int.toNat_natCast]
  refine wpAny_bind (wpAny_updateSeq (hz := Nat.le_trans (Nat.le_add_right _ _) fits) (_hz' := small) el rfl (wpAny_bind (wpAny_letGo ?_)))
  first
    | exact wpAny_bind (wpAny_pure (wpAny_pure ⟨.none, rfl, wpAny_pure h⟩))
    | exact wpAny_pure ⟨.none, rfl, wpAny_pure h⟩
end
def tSplice (K : PySem.W.Frag) (to : TE) (tl th : TO) : TG := fun v σ H Q => to σ H fun o H1 => tl σ H1 fun lo H2 => th σ H2 fun hi H3 => ∃ l b xs ys a c, o = .ref l ∧ v = .ref b ∧ H3 l = some (.lst xs) ∧ SqL K H3 b ys ∧ (l ≠ b ∨ K.lookup b ≠ none) ∧ lo = some a ∧ hi = some c ∧ 0 ≤ a ∧ a ≤ c ∧
  xs.length + ys.length ≤ sizeLine ∧ Q σ (upd H3 l (.lst (xs.take a.toNat ++ ys ++ xs.drop c.toNat)))
section
variable {X : Cx} {o : Expr} {lo hi : Option Expr} {p2 pos : Pos}
theorem pg_splice {to : TE} {tl th : TO} (ho : PE X o to) (hl : PO X lo tl) (hh : PO X hi th) : PG X (.Subscript o (.Slice lo hi none p2) pos) (tSplice X.K to tl th) := by
  refine ⟨fun pins s σ H v u Q I r h => ?_⟩
  show wpAny _ _ (do
    let ov ← holding [u] (eval o X.env)
    let iv ← holding [u, ov] (eval (.Slice lo hi none p2) X.env)
    standAt pos
    holding [u, ov, iv] (setItem ov iv u)
    release [iv, u, ov] []) _ _ s
  refine wpAny_bind (wpAny_holding (thn (ho.run pins s σ H _ I h) fun ov s1 got => ?_))
  obtain ⟨x, H1, I1, r1, q1⟩ := got
  refine wpAny_bind (wpAny_holding ?_)
  refine wpAny_Slice (thn (hl.run pins s1 σ H1 _ I1 q1) fun vl s2 got => ?_)
  obtain ⟨lo', H2, I2, pl, q2⟩ := got
  refine thn (hh.run pins s2 σ H2 _ I2 q2) fun vu s3 got => ?_
  obtain ⟨hi', H3, I3, pu, l, b, xs, ys, a, c, rfl, rfl, hH, hB, ne, rfl, rfl, h0, hac, fits, q⟩ := got
  rw [evalPart_none]
  cases r1
  cases r
  have I4 : Inv X pins σ H3 { s3 with heap := s3.heap.push { cls := .type "slice", data := .fields #[vl, vu, .none] } } := I3.kept (t' := s3.toks) fun b ob q => Heap.get?_push_of_some _ q
  have ne : l ≠ b := by
    rcases ne with ne | ne
    · exact ne
    · intro z
      subst z
      cases hk : X.K.lookup l with
      | none => exact ne hk
      | some ok =>
        have := (I4.bs l ok (I4.ok.mod.kin l ok hk)).2
        rw [hH] at this
        cases this
  obtain ⟨z, its, n, rl, lenl, el⟩ := I4.lstM hH
  obtain ⟨itb, rb, ⟨ob, n2, eb, cb, _, db⟩, _⟩ := I4.list hB
  refine wpAny_pure ?_
  refine wpAny_bind (wpAny_standAt (wpAny_bind (wpAny_holding ?_)))
  have lenb := rb.length
  refine splice_store el eb cb db ne (Heap.IsSliceOf.new _ vl vu .none) pl pu h0 hac (by rw [List.size_toArray, List.size_toArray]; omega) ?_
  refine wpAny_release ⟨σ, _, I4.lset (its' := its.take a.toNat ++ itb ++ its.drop c.toNat) (t' := s3.toks) hH el ?_ (Vals.append (Vals.append (rl.take _) rb) (rl.drop _)) ?_, q⟩
  · show _ = _
    have e1 : its.take (min a.toNat its.length) = its.take a.toNat := by
      by_cases z : a.toNat ≤ its.length
      · rw [Nat.min_eq_left z]
      · rw [Nat.min_eq_right (by omega), List.take_of_length_le (Nat.le_refl _), List.take_of_length_le (by omega)]
    have e2 : its.drop (min c.toNat its.length) = its.drop c.toNat := by
      by_cases z : c.toNat ≤ its.length
      · rw [Nat.min_eq_left z]
      · rw [Nat.min_eq_right (by omega), List.drop_eq_nil_of_le (Nat.le_refl _), List.drop_eq_nil_of_le (by omega)]
    have e3 := splice_eq its itb (min a.toNat its.length) (min c.toNat its.length)
    rw [e1, e2] at e3
    simp only [List.size_toArray] at e3 ⊢
    exact e3
  · rw [List.length_append, List.length_append, List.length_take, List.length_drop]
    omega
/-- as a target: the object of slot i, from lo to hi -/
def gSplice (i : Nat) (ml mh : MO) : MG := fun d fm => match d with
  | .list es => match fm[i]? with
    | some (some (.own _)) => match ml fm with
      | some (some a, fm1) => match mh fm1 with
        | some (some c, fm2) => match fm2[i]? with
          | some (some (.own (.lst xs))) => if 0 ≤ a ∧ a ≤ c ∧ xs.length + es.length ≤ sizeLine then some (fm2.set i (some (.own (.lst (xs.take a.toNat ++ es ++ xs.drop c.toNat))))) else none
          | _ => none
        | _ => none
      | _ => none
    | _ => none
  | _ => none
theorem sg_splice {ro : List Nat} {i : Nat} {x : Str} {p1 : Pos} {ml mh : MO} (hN : X.N[i]? = some x) (hv : Vis X.env.scope x) (hd : (x == ("__debug__" : Str)) = false) (hcd : (x == ("__classdict__" : Str)) = false) (hl : SO X lo ml) (hh : SO X hi mh) :
    SG X (Dq X.K) ro (.Subscript (.Name x p1) (.Slice lo hi none p2) pos) (gSplice i ml mh) :=
  pg_le (pg_splice (pe_var hN hv hd hcd) hl hh) fun v σ H Q ⟨F, fm, d, fm', R, D, em, q⟩ => by
    unfold gSplice at em
    split at em
    · rename_i es
      cases D with
      | @lst b ys _ sb rb =>
        split at em
        · rename_i cl hi'
          obtain ⟨p, hy, hf, hc⟩ := R.own i cl hi'
          split at em
          · rename_i a fm1 e1
            split at em
            · rename_i c fm2 e2
              split at em
              · rename_i xs h1
                split at em
                · rename_i hk
                  cases em
                  refine ⟨.ref p, hy, F, fm, _, fm1, R, e1, fun F1 H1 A1 => ⟨F1, fm1, _, fm2, A1.rel, e2, fun F2 H2 A2 => ?_⟩⟩
                  have A := A1.trans A2
                  obtain ⟨p', vs, e, hs', hp, r⟩ := A.rel.ownL h1 hy
                  cases e
                  have rb' := dpAll_mono A.ext.same rb
                  have fp : F2 p = none := by
                    obtain ⟨p'', h3, h4, _⟩ := A.rel.own i _ h1
                    rw [hy] at h3; cases h3; exact h4
                  refine ⟨p, b, vs, ys, a, c, rfl, rfl, hp, A.rel.sub.seq (A.ext.same.seq sb), ?_, rfl, rfl, hk.1, hk.2.1, by rw [dpAll_len r, dpAll_len rb]; exact hk.2.2, ?_⟩
                  · rcases sb with (sb | ⟨o, sb⟩) | ⟨o, its, n, hkk, _⟩
                    · exact .inl fun z => by subst z; rw [hf] at sb; cases sb
                    · exact .inl fun z => by subst z; rw [hf] at sb; cases sb
                    · exact .inr (by rw [hkk]; exact fun z => nomatch z)
                  · exact q σ F2 _ (A.trans (Aft.write A.rel h1 hs' (dpAll_app (dpAll_app (dpAll_take _ r) rb') (dpAll_drop _ r)))).s
                · cases em
              · cases em
            · cases em
          · cases em
        · cases em
    · cases em
end
end Rf

/-! Ri2b: set(l) of a list of whole numbers. -/
namespace Rf
open PySem PySem.Spec PyProof.Rows L2
section
variable {P : Program} {w : World} {A : Around} {E : Value → Shared → Prop} {s : Shared}
abbrev nS (w : World) : Obj := { cls := .type "set", dict := none, data := .set #[] 0 (.fresh 0 0 (!w.params.followText "set-order")) }
theorem call_setL {l : Addr} {xs : Array Value} (ns : List Int) {Q : Value → Shared → Prop} (hh : A.handled = none) (hL : s.heap.IsList l xs) (hI : IntsAre xs.toList ns) (hB : ns.length + 1 < scanBound)
    (K : ∀ (g : Heap) (tk c : Nat), SetR w g s.heap.objs.size (fun j => decide (j ∈ ns)) c → c ≤ ns.length → (∀ b o, s.heap.get? b = some o → g.get? b = some o) → Q (.ref s.heap.objs.size) { s with heap := g, toks := tk }) :
    wpAny (model P w) A (call (.type "set") [.ref l]) Q E s := by
  have hxs : xs.size = ns.length := by have q := IntsAre.length hI; rwa [Array.length_toList] at q
  obtain ⟨mc, mt, hmro⟩ := F.called_set.mro
  have f1 := F.called_set.made
  have f2 := F.called_set.sub
  refine wpAny_call (codeAny_of_tree (show wpAny _ _ (callAny (.type "set") _) _ _ _ from ?_))
  refine wpAny_pure ⟨Code.quiet_builtin _ (by decide +kernel), codeAny_builtin F.entry_type_call (show _ from ?_)⟩
  rw [Around.under_plain (weight_type_call_type "set" [.ref l] []) (by rfl)]
  have f3 := F.called_set.notType
  have f4 := F.called_set.canCreate
  have f5 := F.typeCall_set_1 (.ref l)
  repeat any_goals (first | assumption | wp_step)
  refine codeAny_mono (code_set_led1 (.ref l) (E := E) (Q₁ := fun v u => v = .ref s.heap.objs.size ∧ u = { s with heap := s.heap.push (nS w) }) ⟨rfl, rfl⟩) fun y u hy => ?_
  cases y with
  | error e => exact hy
  | ok fl =>
    cases fl with
    | ret obj =>
      obtain ⟨rfl, rfl⟩ := hy
      have g0 : (s.heap.push (nS w)).get? s.heap.objs.size = some (nS w) := Heap.get?_push_size _ rfl
      have g1 : Shared.TypeIs { s with heap := s.heap.push (nS w) } (.ref s.heap.objs.size) "set" := ⟨_, g0, rfl⟩
      have f6 := F.called_set.init.lookup
      have f7 := F.called_set.init.bind (.ref s.heap.objs.size)
      repeat any_goals (first | assumption | wp_step)
      refine codeAny_mono (codeAny_call_builtin (R := wants (fun v u => v = .none ∧ ∃ g tk c, u = { s with heap := g, toks := tk } ∧ SetR w g s.heap.objs.size (fun j => decide (j ∈ ns)) c ∧ c ≤ ns.length ∧ ∀ b o, s.heap.get? b = some o → g.get? b = some o) E) F.called_set.init.plain F.entry_set_init (check_set_init_1 g1 ?_)) fun y2 u2 hy2 => ?_
      · obtain ⟨ob, hob, hcl, nn, hdt⟩ := hL
        obtain ⟨bc, bd, bdt, bs⟩ := ob
        simp only at hcl hdt
        subst hcl; subst hdt
        have g2 : (s.heap.push (nS w)).get? l = some { cls := .type "list", dict := bd, data := .seq xs nn, slots := bs } := Heap.get?_push_of_some _ hob
        have f8 := F.sub_list_set
        have f9 := F.sub_list_frozenset
        have f10 : (Value.type "list" == Value.type "dict") = false := by decide
        have g3 : (s.heap.push (nS w)).IsList l xs := ⟨_, g2, rfl, nn, rfl⟩
        unfold Builtin.«set.__init__» noKeywords Builtin.Frozenset.updateFrom
        generalize hp : pyIter = pp
        wp_walk
        subst hp
        refine wpAny_pyIter_list g3 (wpAny_bind (wpAny_runValue ?_))
        have lt : l < s.heap.objs.size := Heap.lt_size hob
        have hd : A.in1.in1.in1.handled = none := by simp [hh]
        have z1 : (s.heap.push (nS w)).objs.size = s.heap.objs.size + 1 := Heap.size_push ..
        have n1 : l ≠ (s.heap.push (nS w)).objs.size := by rw [z1]; exact Nat.ne_of_lt (by exact Nat.lt_succ_of_lt lt)
        have n2 : s.heap.objs.size ∉ [(s.heap.push (nS w)).objs.size, l] := by
          rw [z1]
          intro m
          rcases List.mem_cons.1 m with m | m
          · exact absurd m (Nat.ne_of_lt (Nat.lt_succ_self _))
          · exact absurd (List.mem_singleton.1 m) (Nat.ne_of_gt lt)
        have val : ∀ (i : Nat) (v : Value), xs[i]? = some v → ∃ k t, ns[i]? = some k ∧ v = .int k t := fun i v hv => by
          have hi : i < ns.length := by rw [← hxs]; exact (Array.getElem?_eq_some_iff.mp hv).1
          obtain ⟨t, e⟩ := PyProof.Rows.IntsAre.int_at hI i v (by rw [Array.getElem?_toList]; exact hv)
          exact ⟨ns[i], t, List.getElem?_eq_getElem hi, by rw [e, List.getD_eq_getElem?_getD, List.getElem?_eq_getElem hi] <;> rfl⟩
        refine set_update_ints ((Walks.list hd _ l n1 xs).toS) s.heap.objs.size n2 ns hxs hB val (xs.size - 0) 0 _ (by omega) (Nat.zero_le _) ⟨⟨_, Heap.get?_push_size _ rfl, rfl, rfl⟩, (g3.push _)⟩ ?hA1 ?hB1
        case hA1 => exact ⟨0, Nat.le_refl 0, setR_new_at (Heap.get?_push_of_some _ g0)⟩
        case hB1 =>
          intro u c hm hc hS
          obtain ⟨g, gg, dd, tk, oo⟩ := u
          obtain rfl : gg = s.gens := hm.gens
          obtain rfl : dd = s.drawn := hm.drawn
          obtain rfl : oo = s.os := hm.os
          show wpAny _ _ _ _ _ _
          refine wpAny_pure (show wpAny _ _ (ret Value.none) _ _ _ from ?_)
          rw [hxs] at hc
          refine wpAny_pure ⟨rfl, g, tk, c, rfl, hS, hc, fun b o e => ?_⟩
          have lb := Heap.lt_size e
          refine hm.heap b o (fun m => ?_) (Heap.get?_push_of_some _ (Heap.get?_push_of_some _ e))
          rcases List.mem_cons.1 m with m | m
          · exact absurd m (Nat.ne_of_lt lb)
          · rw [z1] at m
            exact absurd (List.mem_singleton.1 m) (Nat.ne_of_lt (Nat.lt_succ_of_lt lb))
      · cases y2 with
        | error e => exact hy2
        | ok f2 =>
          cases f2 with
          | ret r =>
            obtain ⟨rfl, g, tk, c, rfl, hS, hc, hk⟩ := hy2
            repeat any_goals (first | assumption | wp_step)
            exact K _ _ _ hS hc hk
          | _ => exact hy2.elim
    | _ => exact hy.elim
end
end Rf

/-! Ri3: sorted(set(t)), t * n, tuple(range(a, b)). -/
namespace Rf
open PySem PySem.Spec PyProof.Rows L2

/-! ### the members, ascending -/
def insU (x : Int) : List Int → List Int
  | [] => [x]
  | y :: ys => if x < y then x :: y :: ys else if x = y then y :: ys else y :: insU x ys
def sortU (ns : List Int) : List Int := ns.foldr insU []
theorem insU_mem {x z : Int} : ∀ {l : List Int}, z ∈ insU x l ↔ z = x ∨ z ∈ l
  | [] => by simp [insU]
  | y :: ys => by
    unfold insU
    split
    · simp
    · split
      · rename_i e; subst e; simp
      · rw [List.mem_cons, List.mem_cons, insU_mem]
        constructor
        · rintro (h | h | h)
          · exact .inr (.inl h)
          · exact .inl h
          · exact .inr (.inr h)
        · rintro (h | h | h)
          · exact .inr (.inl h)
          · exact .inl h
          · exact .inr (.inr h)
theorem insU_pair {x : Int} : ∀ {l : List Int}, l.Pairwise (· < ·) → (insU x l).Pairwise (· < ·)
  | [], _ => by simp [insU]
  | y :: ys, h => by
    obtain ⟨h1, h2⟩ := List.pairwise_cons.mp h
    unfold insU
    split
    · rename_i e
      refine List.pairwise_cons.mpr ⟨fun z hz => ?_, h⟩
      rcases List.mem_cons.mp hz with rfl | hz
      · exact e
      · have := h1 z hz; omega
    · split
      · exact h
      · refine List.pairwise_cons.mpr ⟨fun z hz => ?_, insU_pair h2⟩
        rcases insU_mem.mp hz with rfl | hz
        · omega
        · exact h1 z hz
theorem sortU_mem {z : Int} : ∀ {ns : List Int}, z ∈ sortU ns ↔ z ∈ ns
  | [] => by simp [sortU]
  | n :: ns => by
    show z ∈ insU n (sortU ns) ↔ _
    rw [insU_mem, sortU_mem, List.mem_cons]
theorem sortU_pair : ∀ (ns : List Int), (sortU ns).Pairwise (· < ·)
  | [] => .nil
  | n :: ns => insU_pair (sortU_pair ns)
theorem pair_uniq : ∀ {l m : List Int}, l.Pairwise (· < ·) → m.Pairwise (· < ·) → (∀ z, z ∈ l ↔ z ∈ m) → l = m
  | [], [], _, _, _ => rfl
  | [], y :: m, _, _, h => by have := (h y).mpr (by simp); simp at this
  | x :: l, [], _, _, h => by have := (h x).mp (by simp); simp at this
  | x :: l, y :: m, hl, hm, h => by
    obtain ⟨a1, a2⟩ := List.pairwise_cons.mp hl
    obtain ⟨b1, b2⟩ := List.pairwise_cons.mp hm
    have e : x = y := by
      have hx := (h x).mp (by simp)
      have hy := (h y).mpr (by simp)
      rcases List.mem_cons.mp hx with e | hx
      · exact e
      · rcases List.mem_cons.mp hy with e | hy
        · exact e.symm
        · have := a1 y hy; have := b1 x hx; omega
    subst e
    congr 1
    refine pair_uniq a2 b2 fun z => ⟨fun hz => ?_, fun hz => ?_⟩
    · have ne := a1 z hz
      rcases List.mem_cons.mp ((h z).mp (by simp [hz])) with e | hz'
      · omega
      · exact hz'
    · have ne := b1 z hz
      rcases List.mem_cons.mp ((h z).mpr (by simp [hz])) with e | hz'
      · omega
      · exact hz'
section
variable {X : Cx} {K : PySem.W.Frag}
def rSetT (K : PySem.W.Frag) (w : World) : List V → Hp → VK → Prop := fun vs H Q => ∃ (p : Addr) (ns : List Int), vs = [.ref p] ∧ (SqT K H p (ns.map V.int) ∨ SqL K H p (ns.map V.int)) ∧ ns.length < 64 ∧ ∀ (a : Addr) (c : Nat), H a = none → c ≤ ns.length → Q (.ref a) (upd H a (SetO w a (fun j => decide (j ∈ ns)) c))
theorem cr_setT (hc : X.calm = true) : CallR X (.type "set") (rSetT X.K X.w) := by
  intro pins s σ H vs us Q I r h
  obtain ⟨p, ns, rfl, hq, hl, q⟩ := h
  rw [Vals.ref1 r]
  rcases hq with hq | hq
  · obtain ⟨its, rv, pt, hz⟩ := I.tuple hq
    have hi : IntsAre its.toArray.toList ns := by simpa using rv.ints
    refine call_set_tupI ns (I.ok.hd hc) (show s.heap.IsTuple p its.toArray from pt) hi (by unfold scanBound; omega) fun h' tk c R hcn k => ?_
    exact ⟨.ref s.heap.objs.size, _, I.laid (t' := tk) k (Nat.le_refl _) (setO_new R), rfl, q _ c (I.hok.fresh (Nat.le_refl _)) hcn⟩
  · obtain ⟨its, rv, ⟨o, n, e, hcl, _, hdt⟩, hz⟩ := I.list hq
    have hi : IntsAre its.toArray.toList ns := by simpa using rv.ints
    refine call_setL ns (I.ok.hd hc) (show s.heap.IsList p its.toArray from ⟨o, e, hcl, n, hdt⟩) hi (by unfold scanBound; omega) fun h' tk c R hcn k => ?_
    exact ⟨.ref s.heap.objs.size, _, I.laid (t' := tk) k (Nat.le_refl _) (setO_new R), rfl, q _ c (I.hok.fresh (Nat.le_refl _)) hcn⟩
def mSortSet (m : ME) : ME := fun fm => match m fm with
  | some (v, fm1) => match peek v fm1 with
    | some (.tuple ds) => match intsD ds with
      | some ns => if ns.length < 64 then some (.fre (.lst ((sortU ns).map .int)), fm1) else none
      | none => none
    | some (.list ds) => match intsD ds with
      | some ns => if ns.length < 64 then some (.fre (.lst ((sortU ns).map .int)), fm1) else none
      | none => none
    | _ => none
  | none => none
theorem se_sortSet {e : Expr} {m : ME} {p pos p1 pos1 : Pos} (hc : X.calm = true) (hg : Gl X "sorted") (hm : X.mg "sorted" = none) (hg1 : Gl X "set") (hm1 : X.mg "set" = none) (he : SE X e m) (hs : isStar e = false) :
    SE X (.Call (.Name "sorted" p) [.Call (.Name "set" p1) [e] [] pos1] [] pos) (mSortSet m) := by
  have s1 : starEach [e] X.env = (false, eval e X.env) :: starEach [] X.env := star_cons hs
  refine pe_le (pe_callB (cr_sortedSet hc) hg hm boot_sorted (pa_cons (pe_callTy (cr_setT hc) hg1 hm1 PyProof.Rows.boot_set (pa_cons he pa_nil s1) (by decide) (by decide) s1) pa_nil)) fun σ H Q h => ?_
  obtain ⟨F, fm, v, fm', R, em, q⟩ := h
  unfold mSortSet at em
  split at em
  · rename_i w fm1 e1
    split at em
    · rename_i ds hd
      split at em
      · rename_i ns hn
        split at em
        · rename_i h64
          cases em
          refine ⟨F, fm, w, _, R, e1, fun x F1 H1 A1 V1 N1 => ?_⟩
          obtain ⟨a, ys, rfl, s1, r1⟩ := peek_tup A1.rel V1 hd
          have e := intsD_eq hn
          subst e
          have e := dq_ints r1
          subst e
          refine ⟨a, ns, rfl, .inl s1.1, h64, fun b c hb hcn => ⟨b, _, c, rfl, upd_same, by omega, fun ms p' hp hmem _ hfree => ?_⟩⟩
          have A2 := A1.trans (Aft.lay (o := SetO X.w b (fun j => decide (j ∈ ns)) c) A1.rel hb)
          have e : ms = sortU ns := pair_uniq hp (sortU_pair ns) fun z => by rw [hmem, sortU_mem]; simp
          subst e
          exact q _ F1 _ (A2.trans (Aft.lay A2.rel hfree)) (Aft.newL A2.rel hfree (ints_dq _)) (A2.new (VNew.ref hfree))
        · cases em
      · cases em
    · rename_i ds hd
      split at em
      · rename_i ns hn
        split at em
        · rename_i h64
          cases em
          refine ⟨F, fm, w, _, R, e1, fun x F1 H1 A1 V1 N1 => ?_⟩
          obtain ⟨a, ys, rfl, s1, r1⟩ := peek_list A1.rel V1 hd
          have e := intsD_eq hn
          subst e
          have e := dq_ints r1
          subst e
          refine ⟨a, ns, rfl, .inr s1, h64, fun b c hb hcn => ⟨b, _, c, rfl, upd_same, by omega, fun ms p' hp hmem _ hfree => ?_⟩⟩
          have A2 := A1.trans (Aft.lay (o := SetO X.w b (fun j => decide (j ∈ ns)) c) A1.rel hb)
          have e : ms = sortU ns := pair_uniq hp (sortU_pair ns) fun z => by rw [hmem, sortU_mem]; simp
          subst e
          exact q _ F1 _ (A2.trans (Aft.lay A2.rel hfree)) (Aft.newL A2.rel hfree (ints_dq _)) (A2.new (VNew.ref hfree))
        · cases em
      · cases em
    · cases em
  · cases em
/-! ### t * n -/
def rRepP (K : PySem.W.Frag) : R2 := fun x y H Q => ∃ l k xs, x = .ref l ∧ y = .int k ∧ SqT K H l xs ∧ xs ≠ [] ∧ 2 ≤ k ∧ k ≤ 1000 ∧ xs.length ≤ 1000 ∧ rNewP (List.replicate k.toNat xs).flatten H Q
theorem op_repP : OpR X (binaryOp .Mult) (rRepP X.K) := by
  intro pins s σ H x y v u Q I rx ry h
  obtain ⟨l, k, xs, rfl, rfl, hT, ne, k2, k3, small, q⟩ := h
  cases rx
  obtain ⟨t, rfl⟩ := ry
  obtain ⟨its, r, ⟨⟨cls, dd, data, sl⟩, ho, hc, n, hd⟩, _⟩ := I.tuple hT
  simp only at hc hd
  subst hc hd
  have el : its.length = xs.length := r.length.symm
  have nonempty : its.toArray.isEmpty = false := by
    cases its with
    | nil => exact absurd (List.eq_nil_of_length_eq_zero (by simpa using el.symm)) ne
    | cons _ _ => rfl
  have size : its.toArray.size = xs.length := by rw [List.size_toArray, el]
  have flen : (List.replicate k.toNat its).flatten.length ≤ sizeLine := by
    rw [PyProof.Rows.lm_len_rep_flat, el, sizeLine_eq]
    have := Nat.mul_le_mul (show k.toNat ≤ 1000 by omega) small
    omega
  have flenV : (List.replicate k.toNat xs).flatten.length ≤ sizeLine := by
    rw [PyProof.Rows.lm_len_rep_flat, sizeLine_eq]
    have := Nat.mul_le_mul (show k.toNat ≤ 1000 by omega) small
    omega
  have bound : ((its.toArray.size : Nat) : Int) * k ≤ 1000000 := by
    rw [size]
    have := Int.mul_le_mul_of_nonneg_right (show ((xs.length : Nat) : Int) ≤ 1000 by omega) (show 0 ≤ k by omega)
    omega
  have c0 : (decide (k < -(2 ^ 63)) || decide (k ≥ 2 ^ 63)) = false := by rw [decide_eq_false (by omega), decide_eq_false (by omega)] <;> rfl
  have c1 : (its.toArray.isEmpty || k == 1) = false := by rw [nonempty, Bool.false_or]; exact beq_eq_false_iff_ne.mpr (by omega)
  have c2 : (decide (k ≤ 0) || its.toArray.isEmpty) = false := by rw [nonempty, Bool.or_false]; exact decide_eq_false (by omega)
  have c4 : Builtin.Tuple.tupleTooMany (((its.toArray.size : Nat) : Int) * k) = false := by unfold Builtin.Tuple.tupleTooMany; rw [sizeLine_eq]; exact decide_eq_false (by omega)
  have meets := tuple_mulW l its.toArray n dd sl k t c0 c1 c2 (by omega) c4 (by rw [size_rep, List.size_toArray]; exact flen)
  refine wpAny_binaryOp_repeat_ref (T := "tuple") (U := "int") (by decide) ⟨_, ho, rfl⟩ (fun s' => typeIs_int s' k t) noFill_tuple_mul F.fills_int_mul F.slot_int_rmul repeat_tuple F.slot_int_index.lookup (call_meets F.slot_int_rmul (typeIs_int s k t) F.entry_int_rmul (F.args_int_rmul_2 _ _) (int_rmul_tuple k t l its.toArray n dd sl) ⟨ho, rfl, ⟨_, ho, rfl⟩, call_meets F.slot_tuple_mul ⟨_, ho, rfl⟩ F.entry_tuple_mul (F.args_tuple_mul_2 _ _) meets ⟨ho, ?_⟩⟩)
  rw [size_rep]
  exact ⟨.ref s.heap.objs.size, _, inv_newP (t' := s.toks) I (r.rep k.toNat) flenV rfl, rfl, q _ _ (I.hok.fresh (Nat.le_refl _)) rfl⟩
def fMulY : F2 := fun va vb fm => match peek va fm, peek vb fm with
  | some (.tuple ds), some (.int k) => if ds ≠ [] ∧ 2 ≤ k ∧ k ≤ 1000 ∧ ds.length ≤ 1000 then some (.dat (.tuple (repD k ds)), fm) else none
  | _, _ => fMulX va vb fm
theorem p_mulY : Prim2 K (fun x y H Q => rRepP K x y H Q ∨ rMulX K x y H Q) fMulY := by
  intro F H σ fm fm' va vb x y v R Va Vb h Q q
  unfold fMulY at h
  split at h
  · rename_i ds k h1 h2
    split at h
    · rename_i hc
      cases h
      obtain ⟨a, ys, rfl, s1, r1⟩ := peek_tup R Va h1
      refine .inl ⟨a, k, ys, rfl, peek_int R Vb h2, s1.1, fun e => hc.1 ?_, hc.2.1, hc.2.2.1, by rw [dpAll_len r1]; exact hc.2.2.2, fun p o hp hd => ?_⟩
      · subst e; cases r1; rfl
      · exact q _ _ _ (Aft.layF R hp) (Aft.newT R hp hd (dpAll_rep r1 _)) VNew.dat
    · cases h
  · exact .inr (p_mulX F H σ fm fm' va vb x y v R Va Vb h Q q)
end
end Rf

/-! Ri4: tuple(range(a, b)). -/
namespace Rf
open PySem PySem.Spec PyProof.Rows L2

section
variable {X : Cx} {K : PySem.W.Frag}
theorem paired_of {α β : Type} {F : α → β → Prop} : ∀ {l : List α} {m : List β}, l.length = m.length → (∀ (i : Nat) (a : α) (b : β), l[i]? = some a → m[i]? = some b → F a b) → Paired F l m
  | [], [], _, _ => .nil
  | a :: l, b :: m, hl, h => .cons (h 0 a b rfl rfl) (paired_of (by simpa using hl) fun i x y e1 e2 => h (i + 1) x y (by simpa using e1) (by simpa using e2))
  | [], _ :: _, hl, _ => by simp at hl
  | _ :: _, [], hl, _ => by simp at hl
def intsV (lo : Int) (n : Nat) : List V := (List.range n).map fun k => V.int (lo + (k : Nat))
def rTupR : List V → Hp → VK → Prop := fun vs H Q => ∃ (p : Addr) (lo hi : Int), vs = [.ref p] ∧ H p = some (.rng lo hi) ∧ 0 ≤ lo ∧ lo ≤ hi ∧ hi < 100000 ∧ rNewP (intsV lo (hi - lo).toNat) H Q
theorem cr_tupR (hc : X.calm = true) : CallR X (.type "tuple") rTupR := by
  intro pins s σ H vs us Q I r h
  obtain ⟨p, lo, hi, rfl, hp, h0, h1, h2, q⟩ := h
  rw [Vals.ref1 r]
  obtain ⟨t, u, v, hr⟩ := I.hok p _ hp
  have size : Builtin.Range.rangeSize lo hi 1 = hi - lo := by
    unfold Builtin.Range.rangeSize
    rw [if_pos (by decide)]
    split
    · rw [Int.ediv_one]; omega
    · omega
  have fits : ∀ x : Int, 0 ≤ x → x < 200000 → Builtin.Range.rangeFitsLong x = true := fun x g1 g2 => by
    unfold Builtin.Range.rangeFitsLong
    simp
    omega
  have small : Builtin.Range.small lo hi 1 = true := by
    unfold Builtin.Range.small
    rw [size, fits lo h0 (by omega), fits hi (by omega) (by omega), fits 1 (by omega) (by omega), fits (hi - lo) (by omega) (by omega), if_pos (by decide), fits (hi + (1 - 1)) (by omega) (by omega)]
    simp
  have len : Builtin.Range.rangeSize lo hi 1 = ((hi - lo).toNat : Nat) := by rw [size]; omega
  refine call_tuple_range (I.ok.hd hc) hr small len (by omega) fun h' tk acc hk hacc => ?_
  have J : Inv X pins σ H { s with heap := h', toks := tk } := I.kept (t' := tk) hk
  obtain ⟨e1, e2⟩ := hacc
  have rv : Vals (intsV lo (hi - lo).toNat) acc.toList := by
    refine paired_of (by simp [intsV]; omega) fun i a b ha hb => ?_
    have hlt : i < (hi - lo).toNat := by
      have := (List.getElem?_eq_some_iff.mp ha).1
      simpa [intsV] using this
    have ea : a = V.int (lo + (i : Nat)) := by
      have : (intsV lo (hi - lo).toNat)[i]? = some (V.int (lo + (i : Nat))) := by simp [intsV, hlt]
      rw [this] at ha
      exact (Option.some.inj ha).symm
    subst ea
    obtain ⟨t', e⟩ := e2 i b (by rw [← Array.getElem?_toList]; exact hb)
    rw [Int.mul_one] at e
    exact ⟨t', e⟩
  exact ⟨.ref h'.objs.size, _, inv_newP (t' := tk) J rv (by simp [intsV, sizeLine_eq]; omega) (by simp), rfl, q _ _ (J.hok.fresh (Nat.le_refl _)) rfl⟩
def mTupRan (ma : MA) : ME := fun fm => match ma fm with
  | some ([.dat (.int a), .dat (.int b)], fm1) => if 0 ≤ a ∧ a ≤ b ∧ b < 100000 then some (.dat (.tuple (intsFrom a (b - a).toNat)), fm1) else none
  | _ => none
theorem intsV_dq {F : Hp} {lo : Int} {n : Nat} : DqAll K F (intsV lo n) (intsFrom lo n) := by
  unfold intsV intsFrom
  generalize List.range n = l
  induction l with
  | nil => exact .nil
  | cons i l ih => exact .cons (.int _) ih
theorem se_tupRan {a b : Expr} {m : MA} {p pos p1 pos1 : Pos} (hc : X.calm = true) (hg : Gl X "tuple") (hm : X.mg "tuple" = none) (hg1 : Gl X "range") (hm1 : X.mg "range" = none) (he : SA X [a, b] m) (hs : isStar a = false) (hs2 : isStar b = false) :
    SE X (.Call (.Name "tuple" p) [.Call (.Name "range" p1) [a, b] [] pos1] [] pos) (mTupRan m) := by
  refine pe_le (pe_callTy (cr_tupR hc) hg hm PyProof.Rows.boot_tuple (pa_cons (pe_callTy cr_range2 hg1 hm1 boot_range he (by decide) (by decide) (star_cons hs) (back_plain (by simp [noStars, hs2]))) pa_nil)) fun σ H Q h => ?_
  obtain ⟨F, fm, v, fm', R, em, q⟩ := h
  unfold mTupRan at em
  split at em
  · rename_i i j fm1 e1
    split at em
    · rename_i hk
      cases em
      refine ⟨F, fm, _, _, R, e1, fun xs F1 H1 A V N => ?_⟩
      obtain ⟨x, y, rfl, V1, V2⟩ := vsrel2 V
      have e := dpint V1
      subst e
      have e := dpint V2
      subst e
      refine ⟨i, j, rfl, fun r hr => ⟨r, i, j, rfl, upd_same, hk.1, hk.2.1, hk.2.2, fun t o ht hd => ?_⟩⟩
      have A2 := A.trans (Aft.lay (o := HO.rng i j) A.rel hr)
      exact q _ _ _ (A2.trans (Aft.layF A2.rel ht)) (Aft.newT A2.rel ht hd intsV_dq) VNew.dat
    · cases em
  · cases em
end
end Rf

/-! Rg3: the reading of syntax: meanings of expressions and statements, computed from the text. -/
namespace Rf
open PySem PySem.Spec PyProof.Rows L2

/-- what is known of a def that may be called -/
structure DI where
  ps : List Str
  D : Dm
  /-- by keywords: which of them each parameter gets -/
  kw : List Str → Option (List Nat)
/-- where a text stands -/
structure Cc where
  N : List Str
  sc : Scope
  ro : List Nat
  fn : Str → Bool
  df : Str → Option DI
  bl : Str → Bool
  /-- names whose lists are changed: these are not frozen -/
  mu : Str → Bool
def visK : Option NameKind → Bool
  | some .local => true
  | some .cell => true
  | some .free => true
  | _ => false
def plainN (x : Str) : Bool := !(x == ("__debug__" : Str)) && !(x == ("__classdict__" : Str)) && !(x == ("__name__" : Str))
def Cc.slot (c : Cc) (x : Str) : Option Nat := if visK (c.sc.names.lookup x) && plainN x then c.N.findIdx? (· == x) else none
def Cc.sto (c : Cc) (x : Str) : Option Nat := match c.sc.names.lookup x with
  | some .local => match c.N.findIdx? (· == x) with
    | some i => if i ∈ c.ro then none else some i
    | none => none
  | some .cell => if c.fn x then (match c.N.findIdx? (· == x) with
    | some i => if i ∈ c.ro then none else some i
    | none => none) else none
  | _ => none
def Cc.loc (c : Cc) (x : Str) : Option Nat := match c.sc.names.lookup x with
  | some .local => match c.N.findIdx? (· == x) with
    | some i => if i ∈ c.ro then none else some i
    | none => none
  | _ => none
def Cc.glo (c : Cc) (x : Str) : Bool := (match c.sc.names.lookup x with
  | some .globalImplicit => true
  | _ => false) && plainN x
def Cc.blt (c : Cc) (x : Str) : Bool := c.glo x && c.bl x

def mNo : ME := fun _ => none
def mNoT : MT := fun _ => none
def mNoS : MS := fun _ => none
def mNoA : MA := fun _ => none

/-! ### operators -/
def fIsX : F2 := fun va vb fm => match peek vb fm with
  | some .none => fIsN va vb fm
  | some (.bool _) => fIsB va vb fm
  | _ => none
def opF : Operator → Option F2
  | .Add => some fAddX
  | .Sub => some fSubX
  | .Mult => some fMulY
  | .Mod => some fMod
  | .FloorDiv => some fDiv
  | .Pow => some fPow
  | _ => none
def cmpF : CmpOp → Option F2
  | .Eq => some fEqX
  | .NotEq => some fNeX
  | .Lt => some fLt
  | .LtE => some fLe
  | .Gt => some fGt
  | .GtE => some fGe
  | .Is => some fIsX
  | .IsNot => some fNotN
  | .In => some fInX
  | .NotIn => some fNotInX
/-! ### levels -/
structure Lv where
  E : Cc → Expr → ME
  T : Cc → Expr → MT
  B : Cc → List Stmt → MS
def lv0 : Lv := ⟨fun _ _ => mNo, fun _ _ => mNoT, fun _ _ => mNoS⟩
section
variable (l : Lv)
def cA (c : Cc) : List Expr → MA
  | [] => mNil
  | e :: es => if isStar e then mNoA else mCons (l.E c e) (cA c es)
def cO (c : Cc) : Option Expr → MO
  | none => oNone
  | some e => oSome (l.E c e)
/-- a target that takes data -/
def cG1 (c : Cc) : Expr → Option MG
  | .Name x _ => (c.sto x).map gSet
  | .Subscript (.Name x _) (.Slice lo hi none _) _ => (c.slot x).map fun i => gSplice i (cO l c lo) (cO l c hi)
  | .Subscript (.Name x _) e _ => if isSlice e then none else (c.slot x).map fun i => gIx i (l.E c e)
  | _ => none
def cGs1 (c : Cc) : List Expr → Option MGs
  | [] => some gsNil
  | e :: es => if isStar e then none else match cG1 l c e, cGs1 c es with
    | some g, some r => some (gsCons g r)
    | _, _ => none
def cG2 (c : Cc) : Expr → Option MG
  | .Tuple es _ _ => (cGs1 l c es).map (gTupD es.length)
  | e => cG1 l c e
def cGs (c : Cc) : List Expr → Option MGs
  | [] => some gsNil
  | e :: es => if isStar e then none else match cG2 l c e, cGs c es with
    | some g, some r => some (gsCons g r)
    | _, _ => none
def cG (c : Cc) : Expr → Option MG
  | .Tuple es _ _ => (cGs l c es).map (gTupD es.length)
  | e => cG1 l c e
/-- walks that give tuples; others -/
def cIw (c : Cc) : Expr → Option MI
  | .Call (.Name x _) args [] _ =>
    if x = "enumerate" ∧ c.blt x = true then (match args with
      | [e] => if isStar e then none else some (iEnm (cA l c [e]))
      | _ => none)
    else if x = "zip" ∧ c.blt x = true then (match args with
      | [a, b] => if isStar a || isStar b then none else some (iZp (cA l c [a, b]))
      | _ => none)
    else none
  | _ => none
def cI (c : Cc) : Expr → MI
  | .Call (.Name x p) args [] p2 =>
    if x = "range" ∧ c.blt x = true then (match args with
      | [a] => if isStar a then (fun _ => none) else iRan (cA l c [a])
      | [a, b] => if isStar a || isStar b then (fun _ => none) else iRan2 (cA l c [a, b])
      | _ => fun _ => none)
    else iSeq (l.E c (.Call (.Name x p) args [] p2))
  | e => iSeq (l.E c e)
/-- of a comprehension: its own names and their slots -/
def ownOf (N : List Str) (scope : Scope) : List (Str × Nat) := scope.names.filterMap fun y => match y.2 with
  | .local => (N.findIdx? (· == y.1)).map fun i => (y.1, i)
  | .cell => (N.findIdx? (· == y.1)).map fun i => (y.1, i)
  | _ => none
def relS (scope sc : Scope) : Scope := { scope with names := scope.names.map fun (n, k) => if k == .free && sc.kind == .function && sc.names.lookup n == some .cell then (n, .cell) else (n, k) }
def Cc.comp (c : Cc) (scope : Scope) : Cc := { c with
  sc := relS scope c.sc, ro := (List.range c.N.length).filter fun i => !((ownOf c.N scope).map (·.2)).contains i, fn := fun x => scope.names.lookup x == some .cell }
def nm1 : Expr → Bool
  | .Name _ _ => true
  | _ => false
def nm2 : Expr → Bool
  | .Name _ _ => true
  | .Tuple es _ _ => es.all nm1
  | _ => false
def namesOnly : Expr → Bool
  | .Name _ _ => true
  | .Tuple es _ _ => es.all nm2
  | _ => false
def isTup : Expr → Bool
  | .Tuple _ _ _ => true
  | _ => false
def cT1 (c : Cc) : List Expr → MT
  | [] => fun fm => some (true, fm)
  | [e] => l.T c e
  | _ => mNoT
def cL (c : Cc) (elt : Expr) (scope : Scope) : List Comprehension → ME
  | [⟨tg, iter, ifs, is⟩] => if is = 0 ∧ blkC c.N c.sc scope (ownOf c.N scope) = true ∧ isSetD iter = false ∧ namesOnly tg = true then (match cG l (c.comp scope) tg with
      | some g => match cIw l c iter with
        | some mi => if isTup tg then mLc c.N.length mi g (cT1 l (c.comp scope) ifs) (l.E (c.comp scope) elt) ((ownOf c.N scope).map (·.2)) else mNo
        | none => mLc c.N.length (cI l c iter) g (cT1 l (c.comp scope) ifs) (l.E (c.comp scope) elt) ((ownOf c.N scope).map (·.2))
      | none => mNo) else mNo
  | _ => mNo

/-! calls of built-ins -/
def bltTab : List (Str × Nat × FA) := [("len", 1, fLen), ("abs", 1, fAbs), ("int", 1, fInt), ("min", 1, fBest min), ("min", 2, fMin2), ("max", 1, fBest max), ("max", 2, fMax2), ("list", 1, fList), ("tuple", 1, fTuple),
  ("str", 1, fStr), ("all", 1, fAll), ("any", 1, fAny), ("sum", 1, fSum), ("sorted", 1, fSorted), ("repr", 1, fRepr)]
def bltF (x : Str) (n : Nat) : Option FA := (bltTab.find? fun t => decide (t.1 = x) && decide (t.2.1 = n)).map (·.2.2)
def tyTab : List (Str × String) := [("int", "int"), ("bool", "bool"), ("str", "str"), ("list", "list"), ("tuple", "tuple")]
def tyOf (x : Str) : Option String := (tyTab.find? fun t => decide (t.1 = x)).map (·.2)
def tyNamesC (c : Cc) : List Expr → Option (List String)
  | [] => some []
  | .Name x _ :: es => if c.blt x then (match tyOf x, tyNamesC c es with
      | some T, some Ts => some (T :: Ts)
      | _, _ => none) else none
  | _ => none
def cIsi (c : Cc) : List Expr → ME
  | [e, .Name x _] => if isStar e then mNo else if c.blt x then (match tyOf x with
      | some T => mIsi [T] (l.E c e)
      | none => mNo) else mNo
  | [e, .Tuple es _ _] => if isStar e then mNo else if es.length ≤ 8 then (match tyNamesC c es with
      | some Ts => mIsi Ts (l.E c e)
      | none => mNo) else mNo
  | _ => mNo
def kwNames : List Keyword → Option (List Str)
  | [] => some []
  | ⟨some x, _, _⟩ :: ks => (kwNames ks).map (x :: ·)
  | _ => none
def cK (c : Cc) : List Keyword → MA
  | [] => mNil
  | ⟨_, e, _⟩ :: ks => mCons (l.E c e) (cK c ks)
def cDef (c : Cc) (d : DI) (args : List Expr) (kws : List Keyword) : ME := match kws with
  | [] => if noStars args then mCall d.D (mFz (cA l c args)) else mNo
  | kws => match args, kwNames kws with
    | [], some ks => match d.kw ks with
      | some pm => mCall d.D (mFz (mPermA pm ks.length (cK l c kws)))
      | none => mNo
    | _, _ => mNo
/-- sorted(set(e)), tuple(range(a, b)) -/
def cSpec (c : Cc) (x : Str) : List Expr → Option ME
  | [.Call (.Name y _) es [] _] =>
    if x = "sorted" ∧ y = "set" ∧ c.blt y = true then (match es with
      | [e] => if isStar e then none else some (mSortSet (l.E c e))
      | _ => none)
    else if x = "tuple" ∧ y = "range" ∧ c.blt y = true then (match es with
      | [a, b] => if isStar a || isStar b then none else some (mTupRan (cA l c [a, b]))
      | _ => none)
    else none
  | _ => none
def cFun (c : Cc) (x : Str) (args : List Expr) (kws : List Keyword) : ME :=
  if c.glo x then (if c.bl x then (match kws with
      | [] => if x = "isinstance" then cIsi l c args else match cSpec l c x args with
        | some m => m
        | none => if noStars args && !args.isEmpty then (match bltF x args.length with
        | some f => mB1 f (cA l c args)
        | none => mNo) else mNo
      | _ => mNo)
    else match c.df x with
      | some d => cDef l c d args kws
      | none => mNo) else mNo
/-! methods -/
def cMet (c : Cc) (o : Expr) (m : Str) (args : List Expr) : ME :=
  if isCall0 o || !noStars args || decide (20 < args.length) then mNo
  else if m = "append" then (match args with
    | [_] => mMtZ "list" fAppend (l.E c o) (cA l c args)
    | _ => mNo)
  else if m = "extend" then (match args with
    | [_] => mMt "list" fExtend (l.E c o) (cA l c args)
    | _ => mNo)
  else if m = "pop" then (match args with
    | [_] => mMt "list" fPopAt (l.E c o) (cA l c args)
    | _ => mNo)
  else if m = "insert" then (match args with
    | [_, _] => mMtZ "list" fInsert (l.E c o) (cA l c args)
    | _ => mNo)
  else if m = "index" then (match args with
    | [_] => fun fm => match mMt "tuple" (fIdx true) (l.E c o) (cA l c args) fm with
      | some r => some r
      | none => mMt "list" (fIdx false) (l.E c o) (cA l c args) fm
    | _ => mNo)
  else mNo
/-! ### expressions -/
def isBack : Option Expr → Option Expr → Expr → Bool
  | none, none, .UnaryOp .USub (.Constant (.int 1) _ _) _ => true
  | _, _, _ => false
def cBool (c : Cc) (op : BoolOp) : List Expr → ME
  | [] => mNo
  | [e] => l.E c e
  | e :: es => match op with
    | .And => mAndV (l.E c e) (cBool c op es)
    | .Or => mOrV (l.E c e) (cBool c op es)
def cBoolT (c : Cc) (op : BoolOp) : List Expr → MT
  | [] => mNoT
  | [e] => l.T c e
  | e :: es => match op with
    | .And => mAndT (l.T c e) (cBoolT c op es)
    | .Or => mOrT (l.T c e) (cBoolT c op es)
def cCmp (c : Cc) (a : Expr) : List CmpOp → List Expr → ME
  | [op], [b] => if isSetD b then mNo else (match cmpF op with
    | some f => m2 f (l.E c a) (l.E c b)
    | none => mNo)
  | [op, op'], [b, d] => if isSetD b || isSetD d then mNo else (match cmpF op, cmpF op' with
    | some f, some f' => mChain f f' (l.E c a) (l.E c b) (l.E c d)
    | _, _ => mNo)
  | _, _ => mNo
def cE (c : Cc) : Expr → ME
  | .Name x _ => match c.slot x with
    | some i => mVar i
    | none => mNo
  | .Constant k _ _ => match k with
    | .int i => mLit (.int i)
    | .bool b => mLit (.bool b)
    | .str s => mLit (.str s)
    | .none => mLit .none
    | _ => mNo
  | .BinOp a op b _ => match opF op with
    | some f => m2 f (l.E c a) (l.E c b)
    | none => mNo
  | .UnaryOp op a _ => match op with
    | .Not => mNotV (l.E c a)
    | .USub => m1 fNeg (l.E c a)
    | _ => mNo
  | .BoolOp op es _ => cBool l c op es
  | .Compare a ops bs _ => cCmp l c a ops bs
  | .IfExp t a b _ => mIfE (l.T c t) (l.E c a) (l.E c b)
  | .List es _ => mLst (cA l c es)
  | .Tuple es _ _ => mTup (cA l c es)
  | .Subscript e s _ => match s with
    | .Slice lo hi none _ => mSl (l.E c e) (cO l c lo) (cO l c hi)
    | .Slice lo hi (some st) _ => if isBack lo hi st then m1 fBack (l.E c e) else mNo
    | s => m2 fIx (l.E c e) (l.E c s)
  | .ListComp elt gs scope _ => cL l c elt scope gs
  | .Call f args kws p => match f with
    | .Name x _ => cFun l c x args kws
    | .Attribute o m ap => if kws.isEmpty && (ap.endLine == p.line) then cMet l c o m args else mNo
    | _ => mNo
  | _ => mNo
def cT (c : Cc) : Expr → MT
  | .UnaryOp .Not a _ => mNotT (l.T c a)
  | .BoolOp op es _ => cBoolT l c op es
  | .Compare a ops bs _ => mB (cCmp l c a ops bs)
  | .IfExp _ _ _ _ => mNoT
  | e => mB (l.E c e)
/-! ### statements -/
def nmLoc (c : Cc) (line : Nat) : Expr → Option Str
  | .Name id pos => if c.sc.names.lookup id == some .local && pos.line == line then some id else none
  | _ => none
/-- the values of a tuple go straight to names: CPython stores them the other way round -/
def swapNs (c : Cc) (ts vs : List Expr) : Option (Option (List Str)) :=
  if (!(ts.length == 2 || ts.length == 3) || vs.length != ts.length) = true then some none
  else if vs.any isStar = true then some none
  else if ((ts.filterMap (nmLoc c ((ts.head?.map (·.pos.line)).getD 0))).length != ts.length || (ts.filterMap (nmLoc c ((ts.head?.map (·.pos.line)).getD 0))).eraseDups.length != (ts.filterMap (nmLoc c ((ts.head?.map (·.pos.line)).getD 0))).length) = true then some none
  else if vs.all (foldedForSure 8) = true then some none
  else if vs.all (constantsAlone 8) = true then none
  else some (some (ts.filterMap (nmLoc c ((ts.head?.map (·.pos.line)).getD 0))))
def isSD : Expr → Bool
  | .SetComp _ _ _ _ => true
  | .DictComp _ _ _ _ _ => true
  | _ => false
/-- the value of a name's assignment -/
def cV (c : Cc) : Expr → ME
  | .ListComp elt gs scope _ => cL l c elt scope gs
  | e => if isSD e then mNo else l.E c e
def cPar (c : Cc) (ts vs : List Expr) : MS := match ts, vs with
  | [.Name x p, .Name y q], [a, b] => if swapNs c [.Name x p, .Name y q] [a, b] = some (some [x, y]) then (match c.loc x, c.loc y with
      | some i, some j => if i ≠ j then mPar [i, j] (cA l c [a, b]) else mNoS
      | _, _ => mNoS) else mNoS
  | [.Name x p, .Name y q, .Name z r], [a, b, d] => if swapNs c [.Name x p, .Name y q, .Name z r] [a, b, d] = some (some [x, y, z]) then (match c.loc x, c.loc y, c.loc z with
      | some i, some j, some k => if i ≠ j ∧ i ≠ k ∧ j ≠ k then mPar [i, j, k] (cA l c [a, b, d]) else mNoS
      | _, _, _ => mNoS) else mNoS
  | _, _ => mNoS
def isTupE : Expr → Option (List Expr)
  | .Tuple vs _ _ => some vs
  | _ => none
def cTgt (c : Cc) (ts : List Expr) (e : Expr) : MS := match cGs l c ts with
  | some r => mAsg (gTupD ts.length r) (l.E c e)
  | none => mNoS
def cAsg (c : Cc) (e : Expr) : Expr → MS
  | .Name x _ => match c.sto x with
    | some i => mSet i (cV l c e)
    | none => mNoS
  | .Tuple ts _ _ => match isTupE e with
    | some vs => match swapNs c ts vs with
      | some (some _) => cPar l c ts vs
      | some none => cTgt l c ts e
      | none => mNoS
    | none => if isCompr e then mNoS else cTgt l c ts e
  | .Subscript o i p => if isCompr e then mNoS else (match cG1 l c (.Subscript o i p) with
    | some g => mAsg g (l.E c e)
    | none => mNoS)
  | _ => mNoS
/-- may give a new list -/
def mayL : Expr → Bool
  | .ListComp _ _ _ _ => true
  | .List _ _ => true
  | .Call _ _ _ _ => true
  | .BinOp _ _ _ _ => true
  | .Subscript _ s _ => isSlice s
  | .IfExp _ _ _ _ => true
  | _ => false
def gh1 (c : Cc) : Expr → List Nat
  | .Name x _ => if c.mu x then [] else (match c.N.findIdx? (· == x) with
    | some i => [i]
    | none => [])
  | _ => []
def ghs (c : Cc) : List Expr → List Expr → List Nat
  | t :: ts, v :: vs => (if mayL v then gh1 c t else []) ++ ghs c ts vs
  | _, _ => []
/-- the slots that are frozen behind an assignment -/
def ghIx (c : Cc) (e : Expr) : Expr → List Nat
  | .Tuple ts _ _ => (match isTupE e with
    | some vs => ghs c ts vs
    | none => [])
  | t => if mayL e then gh1 c t else []
def mGhO (is : List Nat) (m : MS) : MS := match is with
  | [] => m
  | i :: is => mGh (i :: is) m
def cS (c : Cc) : Stmt → MS
  | .Assign ts e _ => match ts with
    | [tg] => mGhO (ghIx c e tg) (cAsg l c e tg)
    | _ => mNoS
  | .Expr e _ => if isCompr e then mNoS else mExpr (l.E c e)
  | .Return e _ => match e with
    | some e => mRet (l.E c e)
    | none => mRetN
  | .Pass _ => mNext
  | .Break _ => mBreak
  | .Continue _ => mCont
  | .If t a b _ => mIf (l.T c t) (l.B c a) (l.B c b)
  | .For tg iter body els _ => match els with
    | [] => if isSetD iter then mNoS else (match cG l c tg with
      | some g => (match cIw l c iter with
        | some mi => if isTup tg then mFor mi g (l.B c body) else mNoS
        | none => mFor (cI l c iter) g (l.B c body))
      | none => mNoS)
    | _ => mNoS
  | .While t body els _ => match els with
    | [] => mWhile 100000 (l.T c t) (l.B c body)
    | _ => mNoS
  | _ => mNoS
def cB (c : Cc) : List Stmt → MS
  | [] => mNext
  | [s] => cS l c s
  | s :: ss => mSeq (cS l c s) (cB c ss)
end
def lvS (l : Lv) : Lv := ⟨cE l, cT l, cB l⟩
def lv : Nat → Lv
  | 0 => lv0
  | n + 1 => lvS (lv n)
end Rf

/-! Rg5: the defs of a program. -/
namespace Rf
open PySem PySem.Spec PyProof.Rows L2

/-- a def of the text -/
structure DR where
  name : Str
  ps : List Str
  /-- its other names, those of its comprehensions among them -/
  more : List Str
  ro : List Nat
  /-- by which keywords it is called -/
  kws : List (List Str)
  /-- names whose lists it changes or hands back -/
  mu : List Str
  st : Stmt
def DR.N (d : DR) : List Str := d.ps ++ d.more
def kwPm (ps ks : List Str) : List Nat := ps.map fun p => ks.findIdx (· == p)
def DR.kw (d : DR) (ks : List Str) : Option (List Nat) := if ks ∈ d.kws then some (kwPm d.ps ks) else none
def findD (x : Str) : List DR → Option DR
  | [] => none
  | d :: ds => if d.name = x then some d else findD x ds
/-- what is called in a def of level n + 1 -/
def cOf (d : DR) (df : Str → Option DI) (bl : Str → Bool) : Cc := ⟨d.N, defScope d.st, d.ro, fun _ => true, df, bl, fun x => d.mu.contains x⟩
def dm (lvl : Nat) (d : DR) (df : Str → Option DI) (bl : Str → Bool) : Dm := mkD d.ps.length d.N.length d.ro ((lv lvl).B (cOf d df bl) (defBody d.st))
def envD (lvl : Nat) (ds : List DR) (bl : Str → Bool) : Nat → Str → Option DI
  | 0, _ => none
  | n + 1, x => match findD x ds with
    | some d => some ⟨d.ps, dm lvl d (envD lvl ds bl n) bl, d.kw⟩
    | none => none
end Rf

/-! Rg4: the machine keeps to the reading of the text. -/
namespace Rf
open PySem PySem.Spec PyProof.Rows L2

structure DefOk (X : Cx) (x : Str) (d : DI) : Prop where
  ex : ∃ (k : Nat) (f : Addr) (fd : FuncData), FnG X.prog X.w X.K X.mg X.base k f fd d.ps (spM X.K d.D) ∧ Room k X.A ∧ X.mg x = some (.ref f) ∧ PySem.W.keepIn X.K (.ref f) = true ∧ Binds X.K fd d.ps [] ∧ ∀ ks pm, d.kw ks = some pm → KwB X.K fd d.ps ks pm
structure CtxOk (X : Cx) (c : Cc) : Prop where
  N : X.N = c.N
  sc : X.env.scope = c.sc
  kind : c.sc.kind = .function
  nd : c.N.Nodup
  calm : X.calm = true
  fn : ∀ x, c.fn x = true → X.fn x = true
  gd : X.A.guards = some []
  un : X.A.units + 100 < cLine
  bl : ∀ x, c.bl x = true → X.mg x = none
  df : ∀ x d, c.df x = some d → DefOk X x d
structure LvOk (l : Lv) : Prop where
  E : ∀ X c, CtxOk X c → ∀ e, SE X e (l.E c e)
  T : ∀ X c, CtxOk X c → ∀ e, ST X e (l.T c e)
  B : ∀ X c, CtxOk X c → X.xe = (fun _ _ => False) → ∀ ss, SSs X c.ro ss (l.B c ss)
section
variable {X : Cx} {c : Cc} {e : Expr} {es : List Expr} {ss : List Stmt} {st : Stmt} {ro : List Nat}
theorem se_no : SE X e mNo := ⟨fun _ _ _ _ _ _ ⟨_, _, _, _, _, em, _⟩ => nomatch em⟩
theorem se_no' {m : ME} (h : ∀ fm, m fm = none) : SE X e m := ⟨fun _ _ _ _ _ _ ⟨_, fm, _, _, _, em, _⟩ => by rw [h fm] at em; cases em⟩
theorem st_no : ST X e mNoT := ⟨fun _ _ _ _ _ _ ⟨_, _, _, _, _, em, _⟩ => nomatch em⟩
theorem sa_no : SA X es mNoA := ⟨fun _ _ _ _ _ _ _ ⟨_, _, _, _, _, em, _⟩ => nomatch em⟩
theorem ss_no : SS X ro st mNoS := ⟨fun _ _ _ _ _ _ ⟨_, _, _, _, _, em, _⟩ => nomatch em⟩
theorem sss_no : SSs X ro ss mNoS := ⟨fun _ _ _ _ _ _ ⟨_, _, _, _, _, em, _⟩ => nomatch em⟩
theorem si_no {Rl : RLT} {tg iter : Expr} : SI X Rl tg iter (fun _ => none) := ⟨fun _ _ _ _ _ _ ⟨_, _, _, _, _, em, _⟩ => nomatch em⟩
theorem st_no' : ST X e (mB mNo) := ⟨fun _ _ _ _ _ _ ⟨_, _, _, _, _, em, _⟩ => nomatch em⟩
theorem lv0_ok : LvOk lv0 := ⟨fun _ _ _ _ => se_no, fun _ _ _ _ => st_no, fun _ _ _ _ _ => sss_no⟩

/-! ### names -/
theorem find_at {N : List Str} {x : Str} {i : Nat} (h : N.findIdx? (· == x) = some i) : N[i]? = some x := by
  obtain ⟨hi, h1, _⟩ := List.findIdx?_eq_some_iff_getElem.mp h
  rw [List.getElem?_eq_getElem hi]
  have : N[i] = x := by simpa using h1
  rw [this]
theorem vis_of {sc : Scope} {x : Str} (h : visK (sc.names.lookup x) = true) : Vis sc x := by
  unfold visK at h
  split at h
  · rename_i e; exact .inl e
  · rename_i e; exact .inr (.inl e)
  · rename_i e; exact .inr (.inr e)
  · cases h
theorem plainN_of {x : Str} (h : plainN x = true) : (x == ("__debug__" : Str)) = false ∧ (x == ("__classdict__" : Str)) = false ∧ x ≠ "__name__" := by
  unfold plainN at h
  simp only [Bool.and_eq_true, Bool.not_eq_true'] at h
  exact ⟨h.1.1, h.1.2, fun e => by have := h.2; rw [e] at this; simp at this⟩
theorem slot_ok (C : CtxOk X c) {x : Str} {i : Nat} (h : c.slot x = some i) : X.N[i]? = some x ∧ Vis X.env.scope x ∧ (x == ("__debug__" : Str)) = false ∧ (x == ("__classdict__" : Str)) = false := by
  unfold Cc.slot at h
  split at h
  · rename_i hc
    simp only [Bool.and_eq_true] at hc
    obtain ⟨h1, h2, h3⟩ := plainN_of hc.2
    exact ⟨by rw [C.N]; exact find_at h, by rw [C.sc]; exact vis_of hc.1, h1, h2⟩
  · cases h
theorem sto_ok' (C : CtxOk X c) {x : Str} {i : Nat} (h : c.sto x = some i) : X.N[i]? = some x ∧ Loc X.env.scope x ∧ i ∉ c.ro ∧ (X.fn x = true ∨ X.env.scope.names.lookup x = some .local) := by
  unfold Cc.sto at h
  rw [C.N, C.sc]
  split at h
  · rename_i e
    split at h
    · rename_i j hj
      split at h
      · cases h
      · rename_i hn
        cases h
        exact ⟨find_at hj, .inl e, hn, .inr e⟩
    · cases h
  · rename_i e
    split at h
    · rename_i hf
      split at h
      · rename_i j hj
        split at h
        · cases h
        · rename_i hn
          cases h
          exact ⟨find_at hj, .inr e, hn, .inl (C.fn x hf)⟩
      · cases h
    · cases h
  · cases h
theorem loc_ok (C : CtxOk X c) {x : Str} {i : Nat} (h : c.loc x = some i) : X.N[i]? = some x ∧ X.env.scope.names.lookup x = some .local ∧ i ∉ c.ro := by
  unfold Cc.loc at h
  rw [C.N, C.sc]
  split at h
  · rename_i e
    split at h
    · rename_i j hj
      split at h
      · cases h
      · rename_i hn
        cases h
        exact ⟨find_at hj, e, hn⟩
    · cases h
  · cases h
theorem glo_ok (C : CtxOk X c) {x : Str} (h : c.glo x = true) : Gl X x ∧ (x == ("__debug__" : Str)) = false ∧ x ≠ "__name__" := by
  unfold Cc.glo at h
  simp only [Bool.and_eq_true] at h
  obtain ⟨h1, h2⟩ := h
  obtain ⟨p1, _, p3⟩ := plainN_of h2
  refine ⟨?_, p1, p3⟩
  show X.env.scope.names.lookup x = some .globalImplicit
  rw [C.sc]
  split at h1
  · assumption
  · cases h1
theorem blt_ok (C : CtxOk X c) {x : Str} (h : c.blt x = true) : Gl X x ∧ X.mg x = none ∧ (x == ("__debug__" : Str)) = false ∧ x ≠ "__name__" := by
  unfold Cc.blt at h
  simp only [Bool.and_eq_true] at h
  obtain ⟨g1, g2, g3⟩ := glo_ok C h.1
  exact ⟨g1, C.bl x h.2, g2, g3⟩
/-! ### operators -/
theorem opF_ok : ∀ {op : Operator} {f : F2}, opF op = some f → ∃ r, OpR X (binaryOp op) r ∧ Prim2 X.K r f
  | .Add, _, rfl => ⟨_, op_addX, p_addX⟩
  | .Sub, _, rfl => ⟨_, op_subX, p_subX⟩
  | .Mult, _, rfl => ⟨_, opr_or op_repP op_mulX', p_mulY⟩
  | .Mod, _, rfl => ⟨_, op_mod, p_mod⟩
  | .FloorDiv, _, rfl => ⟨_, op_fdiv, p_div⟩
  | .Pow, _, rfl => ⟨_, op_pow, p_pow⟩
theorem p_isX {K : PySem.W.Frag} : Prim2 K (fun x y H Q => (y = .non ∧ Q (.bl (decide (x = .non))) H) ∨ rIsB x y H Q) fIsX := by
  intro F H σ fm fm' va vb x y v R Va Vb h Q q
  unfold fIsX at h
  split at h
  · exact .inl (p_isN F H σ fm fm' va vb x y v R Va Vb h Q q)
  · exact .inr (p_isB F H σ fm fm' va vb x y v R Va Vb h Q q)
  · cases h
theorem cmpF_ok (C : CtxOk X c) : ∀ {op : CmpOp} {f : F2}, cmpF op = some f → ∃ r, OpR X (compareOp op) r ∧ Prim2 X.K r f
  | .Eq, _, rfl => ⟨_, opr_or op_eq (op_eqD (by have := C.un; omega)), p_eqX⟩
  | .NotEq, _, rfl => ⟨_, opr_or op_ne (op_neD (by have := C.un; omega)), p_neX⟩
  | .Lt, _, rfl => ⟨_, op_lt, p_lt⟩
  | .LtE, _, rfl => ⟨_, op_le, p_le⟩
  | .Gt, _, rfl => ⟨_, op_gt, p_gt⟩
  | .GtE, _, rfl => ⟨_, op_ge, p_ge⟩
  | .Is, _, rfl => ⟨_, opr_or op_isN op_isBl, p_isX⟩
  | .IsNot, _, rfl => ⟨_, op_notN, p_notN⟩
  | .In, _, rfl => ⟨_, op_inX (by have := C.un; omega), p_inX⟩
  | .NotIn, _, rfl => ⟨_, op_notInX (by have := C.un; omega), p_notInX⟩
end
end Rf

/-! Rg6: the machine keeps to the reading of expressions. -/
namespace Rf
open PySem PySem.Spec PyProof.Rows L2

section
variable {l : Lv} {X : Cx} {c : Cc} {e : Expr} {es : List Expr}
theorem cA_ok (L : LvOk l) (C : CtxOk X c) : ∀ es : List Expr, SA X es (cA l c es)
  | [] => sa_nil
  | e :: es => by
    unfold cA
    split
    · exact sa_no
    · rename_i h
      exact sa_cons (L.E X c C e) (cA_ok L C es) (star_cons (by simpa using h))
theorem cO_ok (L : LvOk l) (C : CtxOk X c) : ∀ o : Option Expr, SO X o (cO l c o)
  | none => so_none
  | some e => so_some (L.E X c C e)
/-! ### built-ins -/
def BltOk (X : Cx) (x : Str) (f : FA) : Prop := (∃ id r, bootBuiltins x = some (.builtin id) ∧ CallR X (.builtin id) r ∧ PrimA X.K r f) ∨ (∃ T r, bootBuiltins x = some (.type T) ∧ CallR X (.type T) r ∧ PrimA X.K r f)
theorem bltTab_ok (C : CtxOk X c) : ∀ t ∈ bltTab, BltOk X t.1 t.2.2 := by
  have hu := C.un
  unfold bltTab
  refine List.forall_mem_cons.mpr ⟨.inl ⟨_, _, PySem.boot_len, call_len_seq, p_len⟩, ?_⟩
  refine List.forall_mem_cons.mpr ⟨.inl ⟨_, _, boot_abs, call_abs, p_abs⟩, ?_⟩
  refine List.forall_mem_cons.mpr ⟨.inr ⟨_, _, PyProof.Rows.boot_int, call_int1, p_int⟩, ?_⟩
  refine List.forall_mem_cons.mpr ⟨.inl ⟨_, _, boot_min, call_minX C.calm (by omega), p_best⟩, ?_⟩
  refine List.forall_mem_cons.mpr ⟨.inl ⟨_, _, boot_min, call_min2 C.calm, p_min2⟩, ?_⟩
  refine List.forall_mem_cons.mpr ⟨.inl ⟨_, _, boot_max, call_maxX C.calm (by omega), p_best⟩, ?_⟩
  refine List.forall_mem_cons.mpr ⟨.inl ⟨_, _, boot_max, call_max2 C.calm, p_max2⟩, ?_⟩
  refine List.forall_mem_cons.mpr ⟨.inr ⟨_, _, PyProof.Rows.boot_list, call_list_of, p_list⟩, ?_⟩
  refine List.forall_mem_cons.mpr ⟨.inr ⟨_, _, PyProof.Rows.boot_tuple, call_tupleP, p_tuple⟩, ?_⟩
  refine List.forall_mem_cons.mpr ⟨.inr ⟨_, _, PyProof.Rows.boot_str, call_strX, p_str⟩, ?_⟩
  refine List.forall_mem_cons.mpr ⟨.inl ⟨_, _, boot_all, cr_all C.calm, p_all⟩, ?_⟩
  refine List.forall_mem_cons.mpr ⟨.inl ⟨_, _, boot_any, cr_any C.calm, p_any⟩, ?_⟩
  refine List.forall_mem_cons.mpr ⟨.inl ⟨_, _, boot_sum, cr_sum C.calm, p_sum⟩, ?_⟩
  refine List.forall_mem_cons.mpr ⟨.inl ⟨_, _, boot_sorted, cr_sortedI, p_sorted⟩, ?_⟩
  refine List.forall_mem_cons.mpr ⟨.inl ⟨_, _, boot_repr, call_reprX C.gd (by omega), p_repr⟩, ?_⟩
  exact fun t h => nomatch h
theorem bltF_ok (C : CtxOk X c) {x : Str} {n : Nat} {f : FA} (h : bltF x n = some f) : BltOk X x f := by
  unfold bltF at h
  obtain ⟨t, h1, rfl⟩ := Option.map_eq_some_iff.mp h
  have hm := List.mem_of_find?_eq_some h1
  have hp := List.find?_some h1
  simp only [Bool.and_eq_true, decide_eq_true_eq] at hp
  rw [← hp.1]
  exact bltTab_ok C t hm
theorem tyTab_ok : ∀ t ∈ tyTab, bootBuiltins t.1 = some (.type t.2) := by
  unfold tyTab
  refine List.forall_mem_cons.mpr ⟨PyProof.Rows.boot_int, ?_⟩
  refine List.forall_mem_cons.mpr ⟨PyProof.Rows.boot_bool, ?_⟩
  refine List.forall_mem_cons.mpr ⟨PyProof.Rows.boot_str, ?_⟩
  refine List.forall_mem_cons.mpr ⟨PyProof.Rows.boot_list, ?_⟩
  refine List.forall_mem_cons.mpr ⟨PyProof.Rows.boot_tuple, ?_⟩
  exact fun t h => nomatch h
theorem tyOf_ok (C : CtxOk X c) {x : Str} {T : String} (hb : c.blt x = true) (h : tyOf x = some T) : IsTyN X x T := by
  obtain ⟨h1, h2, h3, h4⟩ := blt_ok C hb
  unfold tyOf at h
  obtain ⟨t, e1, rfl⟩ := Option.map_eq_some_iff.mp h
  have hm := List.mem_of_find?_eq_some e1
  have hp := List.find?_some e1
  simp only [decide_eq_true_eq] at hp
  refine ⟨h1, h2, ?_, h4, h3⟩
  rw [← hp]
  exact tyTab_ok t hm
theorem tyNamesC_ok (C : CtxOk X c) : ∀ {es : List Expr} {Ts : List String}, tyNamesC c es = some Ts → TyNs X es Ts ∧ Ts.length = es.length
  | [], _, h => by cases h; exact ⟨.nil, rfl⟩
  | e :: es, Ts, h => by
    unfold tyNamesC at h
    split at h
    · rename_i e; cases e
    · rename_i x p es' e
      cases e
      split at h
      · rename_i hb
        split at h
        · rename_i T Ts' h1 h2
          cases h
          obtain ⟨r, hl⟩ := tyNamesC_ok C h2
          exact ⟨.cons (tyOf_ok C hb h1) r, by simp [hl]⟩
        · cases h
      · cases h
    · cases h
theorem cIsi_ok (L : LvOk l) (C : CtxOk X c) {p pos : Pos} (hb : c.blt "isinstance" = true) (args : List Expr) : SE X (.Call (.Name "isinstance" p) args [] pos) (cIsi l c args) := by
  obtain ⟨h1, h2, _, _⟩ := blt_ok C hb
  unfold cIsi
  split
  · rename_i e x p'
    split
    · exact se_no
    · rename_i hs
      split
      · rename_i hbx
        split
        · rename_i T hT
          exact se_isi1 h1 h2 (L.E X c C e) (tyOf_ok C hbx hT) (by simpa using hs)
        · exact se_no
      · exact se_no
  · rename_i e es' k p'
    split
    · exact se_no
    · rename_i hs
      split
      · rename_i hl
        split
        · rename_i Ts hT
          obtain ⟨r, hn⟩ := tyNamesC_ok C hT
          exact se_isiT h1 h2 (L.E X c C e) r (by rw [hn, sizeLine_eq]; omega) (by simpa using hs)
        · exact se_no
      · exact se_no
  · exact se_no
/-! ### defs -/
theorem kwNames_ok {pos : Pos} {env : Env} : ∀ {ks : List Keyword} {xs : List Str}, kwNames ks = some xs → (backToKw pos (keywordEach ks env)).all (·.1.isSome) = true ∧ (backToKw pos (keywordEach ks env)).filterMap (·.1) = xs ∧ (backToKw pos (keywordEach ks env)).any (·.1.isNone) = false
  | [], _, h => by cases h; exact ⟨rfl, rfl, rfl⟩
  | k :: ks, xs, h => by
    unfold kwNames at h
    split at h
    · rename_i e; cases e
    · rename_i x v p ks' e
      cases e
      cases h2 : kwNames ks with
      | none => rw [h2] at h; cases h
      | some ys =>
        rw [h2] at h
        cases h
        obtain ⟨a, b, d⟩ := kwNames_ok (pos := pos) (env := env) h2
        refine ⟨?_, ?_, ?_⟩
        · simpa [backToKw, keywordEach] using a
        · simpa [backToKw, keywordEach] using b
        · simpa [backToKw, keywordEach] using d
    · cases h
theorem cK_ok (L : LvOk l) (C : CtxOk X c) : ∀ ks : List Keyword, PK X ks (tA X.K (cK l c ks))
  | [] => ⟨fun pos pins s σ H Q I ⟨F, fm, vs, fm', R, em, q⟩ => pk_nil.run pos pins s σ H Q I (by cases em; exact q [] F H (Aft.refl R) .nil .nil)⟩
  | ⟨nm, e, kp⟩ :: ks => ⟨fun pos pins s σ H Q I h => (pk_cons (L.E X c C e) (cK_ok L C ks)).run pos pins s σ H Q I (by
      obtain ⟨F, fm, vs, fm', R, em, q⟩ := h
      unfold cK mCons at em
      split at em
      · rename_i v fm1 e1
        split at em
        · rename_i ws fm2 e2
          cases em
          refine ⟨F, fm, v, fm1, R, e1, fun x F1 H1 A1 V1 N1 => ⟨F1, fm1, ws, _, A1.rel, e2, fun xs F2 H2 A2 V2 N2 => ?_⟩⟩
          refine q (x :: xs) F2 H2 (A1.trans A2) (.cons (A2.val V1) V2 fun c ec j c' ej z => ?_) (.cons N1 (N2.back A1.ext))
          subst ec
          obtain ⟨p, rfl, hf, hc, hl⟩ := V1
          obtain ⟨o, ho⟩ := hc.some'
          have := N2.get ej z p rfl
          rw [ho] at this; cases this
        · cases em
      · cases em)⟩
theorem cDef_ok (L : LvOk l) (C : CtxOk X c) {x : Str} {p pos : Pos} {d : DI} (hg : c.glo x = true) (hd : DefOk X x d) (args : List Expr) (kws : List Keyword) : SE X (.Call (.Name x p) args kws pos) (cDef l c d args kws) := by
  obtain ⟨g1, g2, g3⟩ := glo_ok C hg
  obtain ⟨k, f, fd, F, hr, hm, hk, hb, hkw⟩ := hd.ex
  unfold cDef
  split
  · split
    · rename_i hn
      cases args with
      | nil =>
        refine pe_le (pe_callG0 (E := fun _ _ _ => False) F hr C.gd g1 hm hk hb g2) fun σ H Q h => ?_
        obtain ⟨F, fm, vs, fm', R, em, q⟩ := tA_fz (tE_call (E := fun _ _ _ => False) h)
        cases em
        exact q [] F H (Aft.refl R) .nil .nil
      | cons e es =>
        have hn' : isStar e = false ∧ noStars es = true := by
          unfold noStars at hn
          rw [List.all_cons, Bool.and_eq_true] at hn
          exact ⟨by simpa using hn.1, hn.2⟩
        exact pe_le (pe_callG (E := fun _ _ _ => False) F hr C.gd g1 hm hk hb (cA_ok L C (e :: es)) g2 hn'.1 hn'.2) fun σ H Q h => tA_fz (tE_call h)
    · exact se_no
  · split
    · rename_i ks _ hks
      split
      · rename_i pm hpm
        obtain ⟨a, b, n⟩ := kwNames_ok (pos := pos) (env := X.env) hks
        refine pe_le (pe_callGK (E := fun _ _ _ => False) F hr C.gd g1 hm hk (hkw _ _ hpm) (cK_ok L C _) g2 a b (by rw [n]; rfl)) fun σ H Q h => ?_
        obtain ⟨F, fm, vs, fm', R, em, q⟩ := tA_perm (tA_fz (tE_call (E := fun _ _ _ => False) h))
        refine ⟨F, fm, vs, fm', R, em, fun xs F' H' A V N => ?_⟩
        obtain ⟨q1, q2⟩ := q xs F' H' A V N
        rw [List.append_nil] at q2
        exact ⟨q1, q2⟩
      · exact se_no
    · exact se_no
theorem cSpec_ok (L : LvOk l) (C : CtxOk X c) {x : Str} {p pos : Pos} {m : ME} {args : List Expr} (hb : c.blt x = true) (h : cSpec l c x args = some m) : SE X (.Call (.Name x p) args [] pos) m := by
  obtain ⟨g1, g2, _, _⟩ := blt_ok C hb
  unfold cSpec at h
  split at h
  · rename_i y p1 es p2
    by_cases hx : x = "sorted" ∧ y = "set" ∧ c.blt y = true
    · rw [if_pos hx] at h
      obtain ⟨rfl, rfl, hy⟩ := hx
      obtain ⟨k1, k2, _, _⟩ := blt_ok C hy
      split at h
      · rename_i e
        split at h
        · cases h
        · rename_i hs
          cases h
          exact se_sortSet C.calm g1 g2 k1 k2 (L.E X c C e) (by simpa using hs)
      · cases h
    rw [if_neg hx] at h
    by_cases hz : x = "tuple" ∧ y = "range" ∧ c.blt y = true
    · rw [if_pos hz] at h
      obtain ⟨rfl, rfl, hy⟩ := hz
      obtain ⟨k1, k2, _, _⟩ := blt_ok C hy
      split at h
      · rename_i a b
        split at h
        · cases h
        · rename_i hs
          cases h
          simp only [Bool.or_eq_true, not_or, Bool.not_eq_true] at hs
          exact se_tupRan C.calm g1 g2 k1 k2 (cA_ok L C [a, b]) hs.1 hs.2
      · cases h
    rw [if_neg hz] at h
    cases h
  · cases h
theorem cFun_ok (L : LvOk l) (C : CtxOk X c) {x : Str} {p pos : Pos} (args : List Expr) (kws : List Keyword) : SE X (.Call (.Name x p) args kws pos) (cFun l c x args kws) := by
  unfold cFun
  split
  · rename_i hg
    obtain ⟨g1, g2, g3⟩ := glo_ok C hg
    split
    · rename_i hb
      have hbl : c.blt x = true := by unfold Cc.blt; rw [hg, hb]; rfl
      split
      · split
        · rename_i e
          subst e
          exact cIsi_ok L C hbl args
        · split
          · rename_i m hm
            exact cSpec_ok L C hbl hm
          split
          · rename_i hn
            cases args with
            | nil => simp at hn
            | cons e es =>
              have hn' : isStar e = false ∧ noStars es = true := by
                simp only [Bool.and_eq_true] at hn
                have := hn.1
                unfold noStars at this
                rw [List.all_cons, Bool.and_eq_true] at this
                exact ⟨by simpa using this.1, this.2⟩
              split
              · rename_i f hf
                rcases bltF_ok C hf with ⟨id, r, h1, h2, h3⟩ | ⟨T, r, h1, h2, h3⟩
                · exact se_callB h2 h3 g1 (C.bl x hb) h1 (cA_ok L C (e :: es)) g3 g2 (star_cons hn'.1) (back_plain hn'.2)
                · exact se_callTy h2 h3 g1 (C.bl x hb) h1 (cA_ok L C (e :: es)) g3 g2 (star_cons hn'.1) (back_plain hn'.2)
              · exact se_no
          · exact se_no
      · exact se_no
    · split
      · rename_i d hd
        exact cDef_ok L C hg (C.df x d hd) args kws
      · exact se_no
  · exact se_no
end
end Rf

/-! Rg7: methods, targets, walks, comprehensions. -/
namespace Rf
open PySem PySem.Spec PyProof.Rows L2

section
variable {l : Lv} {X : Cx} {c : Cc} {e o : Expr} {es : List Expr} {apos cpos pos : Pos} {m : Str}
theorem pe_or {t t' : TE} (h : PE X e t) (h' : PE X e t') : PE X e (fun σ H Q => t σ H Q ∨ t' σ H Q) := ⟨fun pins s σ H Q I q => q.elim (h.run pins s σ H Q I) (h'.run pins s σ H Q I)⟩
theorem few_of (hn : noStars (e :: es) = true) (hl : (e :: es).length ≤ 20) (cpos : Pos) (env : Env) :
    ((backTo cpos (starEach (e :: es) env)).all (fun x => !x.1) && (backToKw cpos (keywordEach [] env)).all (fun x => x.1.isSome) && decide ((e :: es).length + ([] : List Keyword).length + (if ([] : List Keyword).isEmpty then 0 else 1) < 30)) = true := by
  rw [back_all hn]
  have : decide ((e :: es).length + ([] : List Keyword).length + (if ([] : List Keyword).isEmpty then 0 else 1) < 30) = true := decide_eq_true (by simp at hl ⊢; omega)
  rw [this]
  rfl
theorem stars_cons (hn : noStars (e :: es) = true) : isStar e = false ∧ noStars es = true := by
  unfold noStars at hn
  rw [List.all_cons, Bool.and_eq_true] at hn
  exact ⟨by simpa using hn.1, hn.2⟩
theorem cMet_ok (L : LvOk l) (C : CtxOk X c) (hline : (apos.endLine == cpos.line) = true) (args : List Expr) : SE X (.Call (.Attribute o m apos) args [] cpos) (cMet l c o m args) := by
  unfold cMet
  by_cases h0 : (isCall0 o || !noStars args || decide (20 < args.length)) = true
  · rw [if_pos h0]; exact se_no
  rw [if_neg h0]
  have hc : isCall0 o = false ∧ noStars args = true ∧ args.length ≤ 20 := by
    simp only [Bool.or_eq_true, not_or, Bool.not_eq_true, Bool.not_eq_false', decide_eq_true_eq] at h0
    exact ⟨h0.1.1, h0.1.2, by omega⟩
  cases args with
  | nil =>
    have z : ∀ {α : Type} (a b : α) (p : Prop) [Decidable p], a = b → (if p then a else b) = b := fun a b p _ e => by split <;> simp [e]
    refine se_no' fun fm => ?_
    by_cases h1 : m = "append"
    · rw [if_pos h1]; rfl
    rw [if_neg h1]
    by_cases h2 : m = "extend"
    · rw [if_pos h2]; rfl
    rw [if_neg h2]
    by_cases h3 : m = "pop"
    · rw [if_pos h3]; rfl
    rw [if_neg h3]
    by_cases h5 : m = "insert"
    · rw [if_pos h5]; rfl
    rw [if_neg h5]
    by_cases h4 : m = "index"
    · rw [if_pos h4]; rfl
    rw [if_neg h4]; rfl
  | cons e es =>
    obtain ⟨s1, s2⟩ := stars_cons hc.2.1
    have few := few_of hc.2.1 hc.2.2 cpos X.env
    have gen : ∀ {T id : String} {r : V → List V → Hp → VK → Prop}, PlainAttrs T → Slot T m id → typeOf (.builtin id) = pure (.type "method_descriptor") → MtR X id r → PE X (.Call (.Attribute o m apos) (e :: es) [] cpos) (tMtP X.K T r (tE X.K (l.E c o)) (tA X.K (cA l c (e :: es)))) :=
      fun pa sl ty mt => pe_mtP pa sl ty mt (L.E X c C o) (cA_ok L C (e :: es)) (base_of hc.1) few hline (star_cons s1) (back_plain s2)
    by_cases h1 : m = "append"
    · subst h1
      rw [if_pos rfl]
      split
      · exact pe_le (gen PySem.F.plainAttrs_list PySem.F.slot_list_append PySem.F.type_list_append mt_append) fun σ H Q h => tE_mtZ p_append h
      · exact se_no
    rw [if_neg h1]
    by_cases h2 : m = "extend"
    · subst h2
      rw [if_pos rfl]
      split
      · exact pe_le (gen PySem.F.plainAttrs_list PySem.F.slot_list_extend PySem.F.type_list_extend mt_extend) fun σ H Q h => tE_mt p_extend h
      · exact se_no
    rw [if_neg h2]
    by_cases h3 : m = "pop"
    · subst h3
      rw [if_pos rfl]
      split
      · exact pe_le (gen PySem.F.plainAttrs_list PySem.F.slot_list_pop PySem.F.type_list_pop mt_popAt) fun σ H Q h => tE_mt p_popAt h
      · exact se_no
    rw [if_neg h3]
    by_cases h5 : m = "insert"
    · subst h5
      rw [if_pos rfl]
      split
      · exact pe_le (gen PySem.F.plainAttrs_list PySem.F.slot_list_insert PySem.F.type_list_insert mt_insert) fun σ H Q h => tE_mtZ p_insert h
      · exact se_no
    rw [if_neg h5]
    by_cases h4 : m = "index"
    · subst h4
      rw [if_pos rfl]
      split
      · refine pe_le (pe_or (gen PySem.F.plainAttrs_tuple PySem.F.slot_tuple_index PySem.F.type_tuple_index mt_idxT) (gen PySem.F.plainAttrs_list PySem.F.slot_list_index PySem.F.type_list_index mt_idxL)) fun σ H Q h => ?_
        obtain ⟨F, fm, v, fm', R, em, q⟩ := h
        simp only at em
        split at em
        · rename_i r er
          cases em
          exact .inl (tE_mt p_idx ⟨F, fm, v, fm', R, er, q⟩)
        · exact .inr (tE_mt p_idx ⟨F, fm, v, fm', R, em, q⟩)
      · exact se_no
    rw [if_neg h4]
    exact se_no
/-! ### targets -/
theorem cG1_ok (L : LvOk l) (C : CtxOk X c) {tg : Expr} {g : MG} (h : cG1 l c tg = some g) : SG X (Dq X.K) c.ro tg g := by
  unfold cG1 at h
  split at h
  · rename_i x p
    obtain ⟨i, hi, rfl⟩ := Option.map_eq_some_iff.mp h
    obtain ⟨h1, h2, h3, h4⟩ := sto_ok' C hi
    exact sg_name (by rw [C.N]; exact C.nd) h3 h1 h2 h4
  · rename_i x p lo hi p2 p3
    obtain ⟨i, hi, rfl⟩ := Option.map_eq_some_iff.mp h
    obtain ⟨h1, h2, h3, h4⟩ := slot_ok C hi
    exact sg_splice h1 h2 h3 h4 (cO_ok L C _) (cO_ok L C _)
  · rename_i x p e p2 _
    split at h
    · cases h
    · rename_i hs
      obtain ⟨i, hi, rfl⟩ := Option.map_eq_some_iff.mp h
      obtain ⟨h1, h2, h3, h4⟩ := slot_ok C hi
      exact sg_ix h1 h2 h3 h4 (L.E X c C e) (by simpa using hs)
  · cases h
theorem cGs1_ok (L : LvOk l) (C : CtxOk X c) : ∀ {tgs : List Expr} {r : MGs}, cGs1 l c tgs = some r → SGs X c.ro tgs r ∧ (assignEach tgs X.env).length = tgs.length ∧ (assignEach tgs X.env).findIdx? (·.1) = none
  | [], _, h => by cases h; exact ⟨sgs_nil, rfl, rfl⟩
  | e :: es, r, h => by
    unfold cGs1 at h
    split at h
    · cases h
    · rename_i hs
      split at h
      · rename_i g r' h1 h2
        cases h
        obtain ⟨a, b, d⟩ := cGs1_ok L C h2
        have hs' : isStar e = false := by simpa using hs
        have ea : assignEach (e :: es) X.env = (false, assign e X.env) :: assignEach es X.env := by
          cases e <;> first | rfl | cases hs'
        refine ⟨sgs_cons (cG1_ok L C h1) a (by rw [ea]; rfl), by rw [ea, List.length_cons, List.length_cons, b], ?_⟩
        rw [ea, List.findIdx?_cons]
        simp [d]
      · cases h
theorem cG2_ok (L : LvOk l) (C : CtxOk X c) {tg : Expr} {g : MG} (h : cG2 l c tg = some g) : SG X (Dq X.K) c.ro tg g := by
  by_cases ht : ∃ ts k p, tg = .Tuple ts k p
  · obtain ⟨ts, k, p, rfl⟩ := ht
    unfold cG2 at h
    obtain ⟨r, hr, rfl⟩ := Option.map_eq_some_iff.mp h
    obtain ⟨a, b, d⟩ := cGs1_ok L C hr
    exact sg_weak (sg_tup C.calm a b d)
  · have : cG1 l c tg = some g := by
      cases tg <;> first | exact h | exact absurd ⟨_, _, _, rfl⟩ ht
    exact cG1_ok L C this
theorem cGs_ok (L : LvOk l) (C : CtxOk X c) : ∀ {tgs : List Expr} {r : MGs}, cGs l c tgs = some r → SGs X c.ro tgs r ∧ (assignEach tgs X.env).length = tgs.length ∧ (assignEach tgs X.env).findIdx? (·.1) = none
  | [], _, h => by cases h; exact ⟨sgs_nil, rfl, rfl⟩
  | e :: es, r, h => by
    unfold cGs at h
    split at h
    · cases h
    · rename_i hs
      split at h
      · rename_i g r' h1 h2
        cases h
        obtain ⟨a, b, d⟩ := cGs_ok L C h2
        have hs' : isStar e = false := by simpa using hs
        have ea : assignEach (e :: es) X.env = (false, assign e X.env) :: assignEach es X.env := by
          cases e <;> first | rfl | cases hs'
        refine ⟨sgs_cons (cG2_ok L C h1) a (by rw [ea]; rfl), by rw [ea, List.length_cons, List.length_cons, b], ?_⟩
        rw [ea, List.findIdx?_cons]
        simp [d]
      · cases h
theorem cG_tup (L : LvOk l) (C : CtxOk X c) {ts : List Expr} {k : Nat} {p : Pos} {g : MG} (h : cG l c (.Tuple ts k p) = some g) : SG X (Dw X.K) c.ro (.Tuple ts k p) g := by
  unfold cG at h
  obtain ⟨r, hr, rfl⟩ := Option.map_eq_some_iff.mp h
  obtain ⟨a, b, d⟩ := cGs_ok L C hr
  exact sg_tup C.calm a b d
theorem cG_ok (L : LvOk l) (C : CtxOk X c) {tg : Expr} {g : MG} (h : cG l c tg = some g) : SG X (Dq X.K) c.ro tg g := by
  by_cases ht : ∃ ts k p, tg = .Tuple ts k p
  · obtain ⟨ts, k, p, rfl⟩ := ht
    exact sg_weak (cG_tup L C h)
  · have : cG1 l c tg = some g := by
      cases tg <;> first | exact h | exact absurd ⟨_, _, _, rfl⟩ ht
    exact cG1_ok L C this
/-! ### walks -/
theorem cIw_ok (L : LvOk l) (C : CtxOk X c) {iter : Expr} {mi : MI} {ts : List Expr} {k : Nat} {p : Pos} (h : cIw l c iter = some mi) : SI X (Dw X.K) (.Tuple ts k p) iter mi := by
  unfold cIw at h
  split at h
  · rename_i x p1 args p2
    by_cases hx : x = "enumerate" ∧ c.blt x = true
    · rw [if_pos hx] at h
      obtain ⟨rfl, hb⟩ := hx
      obtain ⟨g1, g2, _, _⟩ := blt_ok C hb
      split at h
      · rename_i a
        split at h
        · cases h
        · rename_i hs
          cases h
          have hs' : isStar a = false := by simpa using hs
          exact si_enm g1 g2 (cA_ok L C [a]) (star_cons hs')
      · cases h
    rw [if_neg hx] at h
    by_cases hy : x = "zip" ∧ c.blt x = true
    · rw [if_pos hy] at h
      obtain ⟨rfl, hb⟩ := hy
      obtain ⟨g1, g2, _, _⟩ := blt_ok C hb
      split at h
      · rename_i a b
        split at h
        · cases h
        · rename_i hs
          cases h
          simp only [Bool.or_eq_true, not_or, Bool.not_eq_true] at hs
          exact si_zip g1 g2 (cA_ok L C [a, b]) (star_cons hs.1) (back_plain (by simp [noStars, hs.2]))
      · cases h
    rw [if_neg hy] at h
    cases h
  · cases h
theorem cI_ok (L : LvOk l) (C : CtxOk X c) {tg : Expr} (iter : Expr) : SI X (Dq X.K) tg iter (cI l c iter) := by
  unfold cI
  split
  · rename_i x p1 args p2
    by_cases hx : x = "range" ∧ c.blt x = true
    · rw [if_pos hx]
      obtain ⟨rfl, hb⟩ := hx
      obtain ⟨g1, g2, _, _⟩ := blt_ok C hb
      split
      · rename_i a
        split
        · exact si_no
        · rename_i hs
          have hs' : isStar a = false := by simpa using hs
          exact si_ran g1 g2 (cA_ok L C [a]) (star_cons hs')
      · rename_i a b
        split
        · exact si_no
        · rename_i hs
          simp only [Bool.or_eq_true, not_or, Bool.not_eq_true] at hs
          have e2 : starEach [b] X.env = [(false, eval b X.env)] := star_cons hs.2
          exact si_ran2 g1 g2 (cA_ok L C [a, b]) (by rw [star_cons hs.1, e2]) e2
      · exact si_no
    rw [if_neg hx]
    exact si_seq (L.E X c C _)
  · exact si_seq (L.E X c C _)
end
end Rf

/-! Rg8: comprehensions, expressions, statements. -/
namespace Rf
open PySem PySem.Spec PyProof.Rows L2

section
variable {l : Lv} {X : Cx} {c : Cc} {e o : Expr} {es : List Expr} {pos : Pos}
theorem gok_set {i : Nat} : GOk (gSet i) := fun d fm fm' h => by
  cases h
  exact ⟨List.length_set, keeps_set⟩
def GsOk (r : MGs) : Prop := ∀ ds fm fm', r ds fm = some fm' → fm'.length = fm.length ∧ Keeps fm fm'
theorem gsok_nil : GsOk gsNil := fun ds fm fm' h => by
  unfold gsNil at h
  split at h
  · cases h; exact ⟨rfl, Keeps.refl _⟩
  · cases h
theorem gsok_cons {g : MG} {r : MGs} (hg : GOk g) (hr : GsOk r) : GsOk (gsCons g r) := fun ds fm fm' h => by
  unfold gsCons at h
  split at h
  · split at h
    · rename_i fm1 e1
      obtain ⟨a, b⟩ := hg _ _ _ e1
      obtain ⟨c, d⟩ := hr _ _ _ h
      exact ⟨c.trans a, b.trans d⟩
    · cases h
  · cases h
theorem gok_tup {n : Nat} {r : MGs} (hr : GsOk r) : GOk (gTupD n r) := fun d fm fm' h => by
  unfold gTupD at h
  split at h
  · split at h
    · exact hr _ _ _ h
    · cases h
  · split at h
    · exact hr _ _ _ h
    · cases h
  · cases h
theorem cG1_gok {tg : Expr} {g : MG} (hn : nm1 tg = true) (h : cG1 l c tg = some g) : GOk g := by
  cases tg <;> first | (cases hn; done) | skip
  unfold cG1 at h
  obtain ⟨i, hi, rfl⟩ := Option.map_eq_some_iff.mp h
  exact gok_set
theorem cGs1_gok : ∀ {tgs : List Expr} {r : MGs}, tgs.all nm1 = true → cGs1 l c tgs = some r → GsOk r
  | [], _, _, h => by cases h; exact gsok_nil
  | e :: es, r, hn, h => by
    rw [List.all_cons, Bool.and_eq_true] at hn
    unfold cGs1 at h
    split at h
    · cases h
    · split at h
      · rename_i g r' h1 h2
        cases h
        exact gsok_cons (cG1_gok hn.1 h1) (cGs1_gok hn.2 h2)
      · cases h
theorem cG2_gok {tg : Expr} {g : MG} (hn : nm2 tg = true) (h : cG2 l c tg = some g) : GOk g := by
  cases tg <;> first | (cases hn; done) | skip
  · rename_i x p
    have h' : cG1 l c (.Name x p) = some g := h
    exact cG1_gok rfl h'
  · unfold cG2 at h
    obtain ⟨r, hr, rfl⟩ := Option.map_eq_some_iff.mp h
    exact gok_tup (cGs1_gok hn hr)
theorem cGs_gok : ∀ {tgs : List Expr} {r : MGs}, tgs.all nm2 = true → cGs l c tgs = some r → GsOk r
  | [], _, _, h => by cases h; exact gsok_nil
  | e :: es, r, hn, h => by
    rw [List.all_cons, Bool.and_eq_true] at hn
    unfold cGs at h
    split at h
    · cases h
    · split at h
      · rename_i g r' h1 h2
        cases h
        exact gsok_cons (cG2_gok hn.1 h1) (cGs_gok hn.2 h2)
      · cases h
theorem cG_gok {tg : Expr} {g : MG} (hn : namesOnly tg = true) (h : cG l c tg = some g) : GOk g := by
  cases tg <;> first | (cases hn; done) | skip
  · rename_i x p
    have h' : cG1 l c (.Name x p) = some g := h
    exact cG1_gok rfl h'
  · unfold cG at h
    obtain ⟨r, hr, rfl⟩ := Option.map_eq_some_iff.mp h
    exact gok_tup (cGs_gok hn hr)
theorem comp_ok (C : CtxOk X c) {scope : Scope} (hb : BlkOk X.N X.env.scope scope (ownOf c.N scope)) (s : Shared) (H : Hp) (A : Addr) (cl : List (Str × Addr)) (fp : List Addr) : CtxOk (X.blk s H scope (compEnvC scope cl A X.env) fp) (c.comp scope) := by
  refine ⟨C.N, ?_, hb.kind, C.nd, C.calm, fun x h => h, C.gd, C.un, C.bl, fun x d h => ⟨(C.df x d h).ex⟩⟩
  show relabel scope X.env = relS scope c.sc
  rw [relabel_eq, ← C.sc]
  rfl
theorem cT1_ok (L : LvOk l) (C : CtxOk X c) (ifs : List Expr) : PTs X ifs (tT X.K (cT1 l c ifs)) := by
  unfold cT1
  split
  · exact ⟨fun pins s σ H Q I ⟨F, fm, b, fm', R, em, q⟩ => pts_nil.run pins s σ H Q I (by cases em; exact q F H (Aft.refl R))⟩
  · exact pts_one (L.T X c C _)
  · exact ⟨fun _ _ _ _ _ _ ⟨_, _, _, _, _, em, _⟩ => nomatch em⟩
theorem ro_comp {scope : Scope} : ∀ i, i < c.N.length → i ∈ (c.comp scope).ro ∨ i ∈ (ownOf c.N scope).map (·.2) := fun i hi => by
  by_cases h : i ∈ (ownOf c.N scope).map (·.2)
  · exact .inr h
  · refine .inl (List.mem_filter.mpr ⟨List.mem_range.mpr hi, ?_⟩)
    simpa [List.contains_iff_mem] using h
/-- its parts, for either way that it is used -/
structure LcParts (X : Cx) (c : Cc) (elt tg iter : Expr) (ifs : List Expr) (scope : Scope) (Rl : RLT) (mi : MI) (g : MG) (mt : MT) (me : ME) : Prop where
  it : SI X Rl tg iter mi
  blk : BlkOk X.N X.env.scope scope (ownOf c.N scope)
  tgt : ∀ (s : Shared) (H : Hp) (A : Addr) (cl : List (Str × Addr)) (fp : List Addr), SG (X.blk s H scope (compEnvC scope cl A X.env) fp) Rl (c.comp scope).ro tg g
  tst : ∀ (s : Shared) (H : Hp) (A : Addr) (cl : List (Str × Addr)) (fp : List Addr), PTs (X.blk s H scope (compEnvC scope cl A X.env) fp) ifs (tT X.K mt)
  elm : ∀ (s : Shared) (H : Hp) (A : Addr) (cl : List (Str × Addr)) (fp : List Addr), SE (X.blk s H scope (compEnvC scope cl A X.env) fp) elt me
  gok : GOk g
  fld : isSetD iter = false
theorem LcParts.se (C : CtxOk X c) {elt tg iter : Expr} {ifs : List Expr} {scope : Scope} {Rl : RLT} {mi : MI} {g : MG} {mt : MT} {me : ME} (P : LcParts X c elt tg iter ifs scope Rl mi g mt me) :
    SE X (.ListComp elt [⟨tg, iter, ifs, 0⟩] scope pos) (mLc c.N.length mi g mt me ((ownOf c.N scope).map (·.2))) :=
  pe_le (pe_lc (g := tG X.K Rl (c.comp scope).ro g) (tt := tT X.K mt) (te := tE X.K me) C.calm (by rw [C.N]; exact C.nd) P.it P.blk P.tgt P.tst P.elm (folded_of P.fld)) fun σ H Q h => tE_lc P.gok ro_comp h
theorem LcParts.ss (C : CtxOk X c) {elt tg iter : Expr} {ifs : List Expr} {scope : Scope} {Rl : RLT} {mi : MI} {g : MG} {mt : MT} {me : ME} {i : Nat} {y : Str} {py spos : Pos} (P : LcParts X c elt tg iter ifs scope Rl mi g mt me)
    (hi : X.N[i]? = some y) (hl : X.env.scope.names.lookup y = some .local) (hro : i ∉ c.ro) (hsw : swapsWith (.ListComp elt [⟨tg, iter, ifs, 0⟩] scope pos) (some (.Name y py)) spos.line X.env = pure true) :
    SS X c.ro (.Assign [.Name y py] (.ListComp elt [⟨tg, iter, ifs, 0⟩] scope pos) spos) (mSet i (mLc c.N.length mi g mt me ((ownOf c.N scope).map (·.2)))) :=
  ps_le (ps_setLc (g := tG X.K Rl (c.comp scope).ro g) (tt := tT X.K mt) (te := tE X.K me) C.calm (by rw [C.N]; exact C.nd) hi hl hsw P.it P.blk P.tgt P.tst P.elm (folded_of P.fld)) fun D σ H h => by
    have := tS_set hro h
    exact tE_lc P.gok ro_comp this
/-- what the reading of a comprehension is made of -/
theorem cL_parts (L : LvOk l) (C : CtxOk X c) {elt : Expr} {scope : Scope} {gs : List Comprehension} :
    (∀ fm, cL l c elt scope gs fm = none) ∨ ∃ tg iter ifs Rl mi g, gs = [⟨tg, iter, ifs, 0⟩] ∧ cL l c elt scope gs = mLc c.N.length mi g (cT1 l (c.comp scope) ifs) (l.E (c.comp scope) elt) ((ownOf c.N scope).map (·.2)) ∧
      LcParts X c elt tg iter ifs scope Rl mi g (cT1 l (c.comp scope) ifs) (l.E (c.comp scope) elt) := by
  rcases gs with _ | ⟨⟨tg, iter, ifs, is⟩, _ | ⟨g2, gs⟩⟩
  · exact .inl fun _ => rfl
  · by_cases hc : is = 0 ∧ blkC c.N c.sc scope (ownOf c.N scope) = true ∧ isSetD iter = false ∧ namesOnly tg = true
    · have e0 : cL l c elt scope [⟨tg, iter, ifs, is⟩] = (match cG l (c.comp scope) tg with
        | some g => match cIw l c iter with
          | some mi => if isTup tg then mLc c.N.length mi g (cT1 l (c.comp scope) ifs) (l.E (c.comp scope) elt) ((ownOf c.N scope).map (·.2)) else mNo
          | none => mLc c.N.length (cI l c iter) g (cT1 l (c.comp scope) ifs) (l.E (c.comp scope) elt) ((ownOf c.N scope).map (·.2))
        | none => mNo) := by show (if _ then _ else _) = _; rw [if_pos hc] <;> rfl
      obtain ⟨rfl, h1, h2, h3⟩ := hc
      have hb : BlkOk X.N X.env.scope scope (ownOf c.N scope) := by rw [C.N, C.sc]; exact blkOk_by h1
      cases hg : cG l (c.comp scope) tg with
      | none => exact .inl fun fm => by rw [e0, hg]; rfl
      | some g =>
        cases hi : cIw l c iter with
        | none => exact .inr ⟨_, _, _, _, _, g, rfl, by rw [e0, hg, hi], cI_ok L C iter, hb, fun s H A cl fp => cG_ok L (comp_ok C hb s H A cl fp) hg, fun s H A cl fp => cT1_ok L (comp_ok C hb s H A cl fp) ifs, fun s H A cl fp => L.E _ _ (comp_ok C hb s H A cl fp) elt, cG_gok h3 hg, h2⟩
        | some mi =>
          by_cases ht : ∃ ts k p, tg = .Tuple ts k p
          · obtain ⟨ts, k, p, rfl⟩ := ht
            exact .inr ⟨_, _, _, _, mi, g, rfl, by rw [e0, hg, hi]; rfl, cIw_ok L C hi, hb, fun s H A cl fp => cG_tup L (comp_ok C hb s H A cl fp) hg, fun s H A cl fp => cT1_ok L (comp_ok C hb s H A cl fp) ifs, fun s H A cl fp => L.E _ _ (comp_ok C hb s H A cl fp) elt, cG_gok h3 hg, h2⟩
          · refine .inl fun fm => ?_
            have hn : isTup tg = false := by cases tg <;> first | rfl | exact absurd ⟨_, _, _, rfl⟩ ht
            rw [e0, hg, hi, hn]
            rfl
    · exact .inl fun fm => by
        have e0 : cL l c elt scope [⟨tg, iter, ifs, is⟩] = mNo := by show (if _ then _ else _) = _; rw [if_neg hc]
        rw [e0]; rfl
  · exact .inl fun _ => rfl
theorem cL_ok (L : LvOk l) (C : CtxOk X c) {elt : Expr} {scope : Scope} {gs : List Comprehension} : SE X (.ListComp elt gs scope pos) (cL l c elt scope gs) := by
  rcases cL_parts (X := X) L C (elt := elt) (scope := scope) (gs := gs) with h | ⟨tg, iter, ifs, Rl, mi, g, rfl, e, P⟩
  · exact se_no' h
  · rw [e]; exact P.se C
/-! ### expressions -/
theorem cBool_ok (L : LvOk l) (C : CtxOk X c) {op : BoolOp} : ∀ es : List Expr, SE X (.BoolOp op es pos) (cBool l c op es)
  | [] => se_no
  | [e] => se_one (L.E X c C e)
  | e :: e' :: es => by
    cases op with
    | And => exact se_and (L.E X c C e) (cBool_ok L C (e' :: es))
    | Or => exact se_or (L.E X c C e) (cBool_ok L C (e' :: es))
theorem cBoolT_ok (L : LvOk l) (C : CtxOk X c) {op : BoolOp} : ∀ es : List Expr, SW X (.BoolOp op es pos) (cBoolT l c op es)
  | [] => ⟨fun _ _ _ _ _ _ _ ⟨_, _, _, _, _, em, _⟩ => nomatch em⟩
  | [e] => by
    cases op with
    | And => exact sw_and1 (L.T X c C e)
    | Or => exact sw_or1 (L.T X c C e)
  | e :: e' :: es => by
    cases op with
    | And => exact sw_and (L.T X c C e) (cBoolT_ok L C (e' :: es))
    | Or => exact sw_or (L.T X c C e) (cBoolT_ok L C (e' :: es))
theorem cCmp_ok (L : LvOk l) (C : CtxOk X c) {a : Expr} {ops : List CmpOp} {bs : List Expr} : SE X (.Compare a ops bs pos) (cCmp l c a ops bs) ∧ ST X (.Compare a ops bs pos) (mB (cCmp l c a ops bs)) := by
  unfold cCmp
  split
  · rename_i op b
    split
    · exact ⟨se_no, st_no'⟩
    · rename_i hs
      split
      · rename_i f hf
        obtain ⟨r, h1, h2⟩ := cmpF_ok C hf
        have hm : behindInMarks op b = false := noMark_of (by simpa using hs)
        exact ⟨se_cmp h1 h2 (L.E X c C a) (L.E X c C b) hm, st_cmp h1 h2 (L.E X c C a) (L.E X c C b) hm⟩
      · exact ⟨se_no, st_no'⟩
  · rename_i op op' b d
    split
    · exact ⟨se_no, st_no'⟩
    · rename_i hs
      split
      · rename_i f f' hf hf'
        obtain ⟨r, h1, h2⟩ := cmpF_ok C hf
        obtain ⟨r', h1', h2'⟩ := cmpF_ok C hf'
        simp only [Bool.or_eq_true, not_or, Bool.not_eq_true] at hs
        have hm : lastMarks [op, op'] [b, d] = false := lastMark_of hs.2
        exact ⟨se_chain h1 h1' h2 h2' (L.E X c C a) (L.E X c C b) (L.E X c C d) hm, st_chain h1 h1' h2 h2' (L.E X c C a) (L.E X c C b) (L.E X c C d) hm⟩
      · exact ⟨se_no, st_no'⟩
  · exact ⟨se_no, st_no'⟩
theorem cE_ok (L : LvOk l) (C : CtxOk X c) (e : Expr) : SE X e (cE l c e) := by
  unfold cE
  split
  · split
    · rename_i i hi
      obtain ⟨h1, h2, h3, h4⟩ := slot_ok C hi
      exact se_var i h1 h2 h3 h4
    · exact se_no
  · split
    · exact se_int
    · exact se_bl
    · exact se_str
    · exact se_non
    · exact se_no
  · split
    · rename_i f hf
      obtain ⟨r, h1, h2⟩ := opF_ok (X := X) hf
      exact se_op h1 h2 (L.E X c C _) (L.E X c C _)
    · exact se_no
  · split
    · exact se_not (L.E X c C _)
    · exact se_un un_neg p_neg (L.E X c C _)
    · exact se_no
  · exact cBool_ok L C _
  · exact (cCmp_ok L C).1
  · exact se_ife (L.T X c C _) (L.E X c C _) (L.E X c C _)
  · exact se_lst (cA_ok L C _)
  · exact se_tup (cA_ok L C _)
  · rename_i e1 s1 p1
    split
    · exact se_slice (L.E X c C _) (cO_ok L C _) (cO_ok L C _)
    · rename_i lo hi st p4
      split
      · rename_i hb
        unfold isBack at hb
        split at hb
        · exact se_back (L.E X c C _)
        · cases hb
      · exact se_no
    · rename_i h1 h2
      have hs : isSlice s1 = false := by
        cases s1 <;> first | rfl | skip
        rename_i lo hi st p
        cases st with
        | none => exact absurd rfl (h1 lo hi p)
        | some st => exact absurd rfl (h2 lo hi st p)
      exact se_ix ix_seq p_ix (L.E X c C _) (L.E X c C _) (plainIx_of hs)
  · exact cL_ok L C
  · split
    · exact cFun_ok L C _ _
    · split
      · rename_i hk
        simp only [Bool.and_eq_true, List.isEmpty_iff] at hk
        rw [hk.1]
        exact cMet_ok L C hk.2 _
      · exact se_no
    · exact se_no
  · exact se_no
theorem cT_ok (L : LvOk l) (C : CtxOk X c) (e : Expr) : ST X e (cT l c e) := by
  cases e <;> first
    | exact sw_st (cBoolT_ok L C _)
    | exact (cCmp_ok L C).2
    | exact st_no
    | exact st_val (L.E X c C _)
    | skip
  rename_i op a p
  cases op <;> first
    | exact st_not (L.T X c C _)
    | exact st_val (L.E X c C _)
end
end Rf

/-! Rg9: statements; levels; the defs of a program. -/
namespace Rf
open PySem PySem.Spec PyProof.Rows L2

section
variable {l : Lv} {X : Cx} {c : Cc} {e o tg : Expr} {es ts vs : List Expr} {pos p : Pos} {k : Nat}
theorem swapNs_ok (C : CtxOk X c) {r : Option (List Str)} {k k' : Nat} {p p' : Pos} (h : swapNs c ts vs = some r) : swappedStores [.Tuple ts k p] (.Tuple vs k' p') X.env = pure r := by
  have hb : (X.env.blockKind != .function) = false := by
    unfold Env.blockKind
    rw [C.sc, C.kind]
    rfl
  have hk : ∀ x, X.env.kindOf x = c.sc.names.lookup x := fun x => by unfold Env.kindOf; rw [C.sc]
  have hs : ∀ f : Expr → Bool, (∀ e, f e = isStar e) → vs.any f = vs.any isStar := fun f hf => by rw [funext hf]
  have hm : ∀ f : Expr → Option Str, (∀ e, f e = nmLoc c ((ts.head?.map (·.pos.line)).getD 0) e) → ts.filterMap f = ts.filterMap (nmLoc c ((ts.head?.map (·.pos.line)).getD 0)) := fun f hf => by rw [funext hf]
  unfold swapNs at h
  unfold swappedStores
  simp only [hb, Bool.or_false, hk]
  rw [hs _ (fun e => by cases e <;> rfl), hm _ (fun e => by cases e <;> rfl)]
  split at h
  · rename_i h1
    cases h
    rw [if_pos h1]
  · rename_i h1
    rw [if_neg h1]
    split at h
    · rename_i h2
      cases h
      rw [if_pos h2]
    · rename_i h2
      rw [if_neg h2]
      split at h
      · rename_i h3
        cases h
        rw [if_pos h3]
      · rename_i h3
        rw [if_neg h3]
        split at h
        · rename_i h4
          cases h
          rw [if_pos h4]
        · rename_i h4
          rw [if_neg h4]
          split at h
          · cases h
          · rename_i h5
            cases h
            rw [if_neg h5]
theorem swapped_tup (h : isTupE e = none) : swappedStores [tg] e X.env = pure none := by
  cases e <;> first | (cases h; done) | skip
  all_goals (cases tg <;> rfl)
theorem swapped_sub {i : Expr} : swappedStores [.Subscript o i p] e X.env = pure none := rfl
theorem cV_ok (L : LvOk l) (C : CtxOk X c) {i : Nat} {x : Str} {px : Pos} (h : c.sto x = some i) : SS X c.ro (.Assign [.Name x px] e pos) (mSet i (cV l c e)) := by
  obtain ⟨h1, h2, h3, h4⟩ := sto_ok' C h
  have hN : X.N.Nodup := by rw [C.N]; exact C.nd
  have plain : ∀ {m : ME}, SE X e m → isCompr e = false → SS X c.ro (.Assign [.Name x px] e pos) (mSet i m) := fun he hc => ss_set hN h3 h1 h2 he (swap_of hc) h4
  have no : SS X c.ro (.Assign [.Name x px] e pos) (mSet i mNo) := ⟨fun _ _ _ _ _ _ ⟨_, _, _, _, _, em, _⟩ => nomatch em⟩
  by_cases hl : ∃ elt gs scope p, e = .ListComp elt gs scope p
  · obtain ⟨elt, gs, scope, p, rfl⟩ := hl
    show SS X c.ro _ (mSet i (cL l c elt scope gs))
    rcases cL_parts (X := X) L C (elt := elt) (scope := scope) (gs := gs) with h0 | ⟨tg, iter, ifs, Rl, mi, g, rfl, eq, P⟩
    · refine ⟨fun _ _ _ _ _ _ ⟨_, fm, _, _, _, em, _⟩ => ?_⟩
      unfold mSet at em
      rw [h0 fm] at em
      cases em
    · rw [eq]
      have sw : swapsWith (.ListComp elt [⟨tg, iter, ifs, 0⟩] scope p) (some (.Name x px)) pos.line X.env = pure (X.env.blockKind == .function && X.env.kindOf x == some .local && px.line == p.line && !(scope.names.any fun (n, k) => n == x && (k == .local || k == .cell))) := rfl
      cases hb : (X.env.blockKind == .function && X.env.kindOf x == some .local && px.line == p.line && !(scope.names.any fun (n, k) => n == x && (k == .local || k == .cell))) with
      | true =>
        rw [hb] at sw
        have hloc : X.env.scope.names.lookup x = some .local := by
          simp only [Bool.and_eq_true] at hb
          have := hb.1.1.2
          exact eq_of_beq this
        exact P.ss C h1 hloc h3 sw
      | false =>
        rw [hb] at sw
        exact ss_set hN h3 h1 h2 (P.se C) sw h4
  · by_cases hs : isSD e = true
    · have : cV l c e = mNo := by
        cases e <;> first | (cases hs; done) | rfl
      rw [this]
      exact no
    · have hs' : isSD e = false := by simpa using hs
      have hc : isCompr e = false := by
        cases e <;> first | rfl | (cases hs'; done) | exact absurd ⟨_, _, _, _, rfl⟩ hl
      have : cV l c e = l.E c e := by
        cases e <;> first | rfl | (cases hs'; done) | exact absurd ⟨_, _, _, _, rfl⟩ hl
      rw [this]
      exact plain (L.E X c C e) hc
theorem cTgt_ok (L : LvOk l) (C : CtxOk X c) (hs : isCompr e = false) (hw : swappedStores [.Tuple ts k p] e X.env = pure none) : SS X c.ro (.Assign [.Tuple ts k p] e pos) (cTgt l c ts e) := by
  unfold cTgt
  split
  · rename_i r hr
    have hg : cG l c (.Tuple ts k p) = some (gTupD ts.length r) := by
      show (cGs l c ts).map _ = _
      rw [hr]; rfl
    exact ss_asg (L.E X c C e) (cG_ok L C hg) (swapSole_of hs) hw
  · exact ss_no
theorem cPar_ok (L : LvOk l) (C : CtxOk X c) {k' : Nat} {p' : Pos} : SS X c.ro (.Assign [.Tuple ts k p] (.Tuple vs k' p') pos) (cPar l c ts vs) := by
  have hN : X.N.Nodup := by rw [C.N]; exact C.nd
  unfold cPar
  split
  · rename_i x px y py a b
    split
    · rename_i hw
      split
      · rename_i i j hi hj
        split
        · rename_i ne
          obtain ⟨a1, a2, a3⟩ := loc_ok C hi
          obtain ⟨b1, b2, b3⟩ := loc_ok C hj
          refine ss_par2 C.calm hN a1 b1 ne a2 b2 (fun n hn => ?_) (cA_ok L C [a, b]) (swapNs_ok C hw) (swapSole_of rfl)
          rcases List.mem_cons.mp hn with rfl | hn
          · exact a3
          · rcases List.mem_cons.mp hn with rfl | hn
            · exact b3
            · cases hn
        · exact ss_no
      · exact ss_no
    · exact ss_no
  · rename_i x px y py z pz a b d
    split
    · rename_i hw
      split
      · rename_i i j n hi hj hn
        split
        · rename_i ne
          obtain ⟨a1, a2, a3⟩ := loc_ok C hi
          obtain ⟨b1, b2, b3⟩ := loc_ok C hj
          obtain ⟨d1, d2, d3⟩ := loc_ok C hn
          refine ss_par3 C.calm hN a1 b1 d1 ne.1 ne.2.1 ne.2.2 a2 b2 d2 (fun n hn => ?_) (cA_ok L C [a, b, d]) (swapNs_ok C hw) (swapSole_of rfl)
          rcases List.mem_cons.mp hn with rfl | hn
          · exact a3
          · rcases List.mem_cons.mp hn with rfl | hn
            · exact b3
            · rcases List.mem_cons.mp hn with rfl | hn
              · exact d3
              · cases hn
        · exact ss_no
      · exact ss_no
    · exact ss_no
  · exact ss_no
theorem isTupE_eq {vs : List Expr} (h : isTupE e = some vs) : ∃ k p, e = .Tuple vs k p := by
  cases e <;> first | (cases h; done) | skip
  cases h
  exact ⟨_, _, rfl⟩
theorem cAsg_ok (L : LvOk l) (C : CtxOk X c) : SS X c.ro (.Assign [tg] e pos) (cAsg l c e tg) := by
  cases tg <;> first | exact ss_no | skip
  · rename_i o i p
    show SS X c.ro _ (if isCompr e = true then mNoS else _)
    split
    · exact ss_no
    · rename_i hc
      split
      · rename_i g hg
        exact ss_asg (L.E X c C e) (cG1_ok L C hg) (swapSole_of (by simpa using hc)) swapped_sub
      · exact ss_no
  · rename_i x p
    show SS X c.ro _ (match c.sto x with | some i => mSet i (cV l c e) | none => mNoS)
    split
    · rename_i i hi
      exact cV_ok L C hi
    · exact ss_no
  · rename_i ts k p
    show SS X c.ro _ (match isTupE e with | some vs => (match swapNs c ts vs with | some (some _) => cPar l c ts vs | some none => cTgt l c ts e | none => mNoS) | none => if isCompr e then mNoS else cTgt l c ts e)
    split
    · rename_i vs hv
      obtain ⟨k', p', rfl⟩ := isTupE_eq hv
      split
      · exact cPar_ok L C
      · rename_i hw
        exact cTgt_ok L C rfl (swapNs_ok C hw)
      · exact ss_no
    · rename_i hv
      split
      · exact ss_no
      · rename_i hc
        exact cTgt_ok L C (by simpa using hc) (swapped_tup hv)
theorem cS_ok (L : LvOk l) (C : CtxOk X c) (hx : X.xe = fun _ _ => False) (st : Stmt) : SS X c.ro st (cS l c st) := by
  have hp : PassesOwn (model X.prog X.w) X.A X.env X.xe := by rw [hx]; exact PassesOwn.never
  unfold cS
  split
  · split
    · unfold mGhO
      split
      · exact cAsg_ok L C
      · exact ss_gh (cAsg_ok L C)
    · exact ss_no
  · split
    · exact ss_no
    · rename_i hc
      exact ss_expr (L.E X c C _) (swap_of (by simpa using hc))
  · split
    · exact ss_ret (L.E X c C _)
    · exact ss_retN
  · exact ss_pass
  · exact ss_break
  · exact ss_cont
  · exact ss_if (L.T X c C _) (L.B X c C hx _) (L.B X c C hx _)
  · rename_i tg iter body els p
    split
    · split
      · exact ss_no
      · rename_i hs
        have hs' : isSetD iter = false := by simpa using hs
        split
        · rename_i g hg
          split
          · rename_i mi hi
            split
            · rename_i ht
              have : ∃ ts k p, tg = .Tuple ts k p := by
                cases tg <;> first | (cases ht; done) | exact ⟨_, _, _, rfl⟩
              obtain ⟨ts, k, p, rfl⟩ := this
              exact ss_for hp C.calm (cIw_ok L C hi) (cG_tup L C hg) (L.B X c C hx _) (folded_of hs')
            · exact ss_no
          · exact ss_for hp C.calm (cI_ok L C iter) (cG_ok L C hg) (L.B X c C hx _) (folded_of hs')
        · exact ss_no
    · exact ss_no
  · split
    · exact ss_while hp (L.T X c C _) (L.B X c C hx _)
    · exact ss_no
  · exact ss_no
theorem cB_ok (L : LvOk l) (C : CtxOk X c) (hx : X.xe = fun _ _ => False) : ∀ ss : List Stmt, SSs X c.ro ss (cB l c ss)
  | [] => sss_nil
  | [s] => sss_one (cS_ok L C hx s)
  | s :: s' :: ss => sss_cons (cS_ok L C hx s) (cB_ok L C hx (s' :: ss))
end
theorem lvS_ok {l : Lv} (L : LvOk l) : LvOk (lvS l) := ⟨fun X c C e => cE_ok L C e, fun X c C e => cT_ok L C e, fun X c C hx ss => cB_ok L C hx ss⟩
theorem lv_ok : ∀ n, LvOk (lv n)
  | 0 => lv0_ok
  | n + 1 => lvS_ok (lv_ok n)

/-! ### the defs of a program -/
/-- what the head says of a def -/
structure DfOk (K : PySem.W.Frag) (mg : Str → Option Value) (d : DR) : Prop where
  ex : ∃ (f : Addr) (fd : FuncData), mg d.name = some (.ref f) ∧ Fun K d.name d.name d.st f fd ∧ Binds K fd d.ps [] ∧ ∀ ks ∈ d.kws, KwB K fd d.ps ks (kwPm d.ps ks)
  scope : FnScope d.N d.ps (defScope d.st)
  ro : ∀ i ∈ d.ro, i < d.ps.length
section
variable {P : Program} {w : World} {K : PySem.W.Frag} {mg : Str → Option Value} {base : Heap} {lvl : Nat} {ds : List DR} {bl : Str → Bool}
theorem findD_mem {x : Str} : ∀ {ds : List DR} {d : DR}, findD x ds = some d → d ∈ ds ∧ d.name = x
  | [], _, h => by cases h
  | d :: ds, d', h => by
    unfold findD at h
    split at h
    · rename_i e; cases h; exact ⟨by simp, e⟩
    · obtain ⟨a, b⟩ := findD_mem h
      exact ⟨List.mem_cons_of_mem _ a, b⟩
/-- each def keeps to its meaning -/
theorem envD_ok (hd : ∀ d ∈ ds, DfOk K mg d) (hb : ∀ x, bl x = true → mg x = none) : ∀ (n : Nat) (d : DR), d ∈ ds → ∀ (f : Addr) (fd : FuncData), mg d.name = some (.ref f) → Fun K d.name d.name d.st f fd →
    FnG P w K mg base (n + 1) f fd d.ps (spM K (dm lvl d (envD lvl ds bl n) bl))
  | n, d, hm, f, fd, hf, Fn => by
    have D := hd d hm
    refine fnG_ok Fn D.scope D.ro fun cdv A outer s H E hr hgd => ?_
    refine (lv_ok lvl).B (cxOf CX0 P w K mg base d.N d.name (defScope d.st) f cdv A outer s H E).nox (cOf d (envD lvl ds bl n) bl) ⟨rfl, rfl, D.scope.kind, D.scope.nd, rfl, fun _ _ => rfl, hgd, ?_, hb, fun x di hx => ?_⟩ rfl (defBody d.st)
    · have := hr.un
      show (A.deeper _).units + 100 < cLine
      omega
    · cases n with
      | zero => cases hx
      | succ m =>
        have hx : envD lvl ds bl (m + 1) x = some di := hx
        unfold envD at hx
        split at hx
        · rename_i d' hd'
          cases hx
          obtain ⟨hm', rfl⟩ := findD_mem hd'
          obtain ⟨f', fd', h1, h2, h3, h4⟩ := (hd d' hm').ex
          refine ⟨m + 1, f', fd', envD_ok hd hb m d' hm' f' fd' h1 h2, hr, h1, h2.kp, h3, fun ks pm hk => ?_⟩
          simp only [DR.kw] at hk
          split at hk
          · rename_i hin
            cases hk
            exact h4 ks hin
          · cases hk
        · cases hx
end
end Rf

/-! Rj0: names for the parts of readings. -/
namespace Rf
open PySem PySem.Spec PyProof.Rows L2
abbrev mYes : MT := fun fm => some (true, fm)
abbrev mIndex (mo : ME) (ma : MA) : ME := fun fm => match mMt "tuple" (fIdx true) mo ma fm with
  | some r => some r
  | none => mMt "list" (fIdx false) mo ma fm
end Rf

/-! Rk1: small data: its text fits. -/
namespace Rf
open PySem PySem.Spec PyProof.Rows L2
mutual
def sz : PyData → Nat
  | .none => 10
  | .bool _ => 10
  | .int _ => 60
  | .str s => 10 * s.length + 10
  | .list xs => szA xs + 10
  | .tuple xs => szA xs + 10
  | .dict _ => 10
def szA : List PyData → Nat
  | [] => 0
  | x :: xs => sz x + 2 + szA xs
end
theorem szA_nil : szA [] = 0 := by simp [szA]
theorem szA_cons (x : PyData) (xs : List PyData) : szA (x :: xs) = sz x + 2 + szA xs := by simp [szA]
theorem szA_app : ∀ xs ys : List PyData, szA (xs ++ ys) = szA xs + szA ys
  | [], ys => by simp [szA_nil]
  | x :: xs, ys => by rw [List.cons_append, szA_cons, szA_cons, szA_app xs ys]; omega
theorem szA_rev : ∀ xs : List PyData, szA xs.reverse = szA xs
  | [] => rfl
  | x :: xs => by rw [List.reverse_cons, szA_app, szA_rev xs, szA_cons, szA_cons, szA_nil]; omega
theorem szA_take (n : Nat) (xs : List PyData) : szA (xs.take n) ≤ szA xs := by
  have h := szA_app (xs.take n) (xs.drop n); rw [List.take_append_drop] at h; omega
theorem szA_drop (n : Nat) (xs : List PyData) : szA (xs.drop n) ≤ szA xs := by
  have h := szA_app (xs.take n) (xs.drop n); rw [List.take_append_drop] at h; omega
theorem szA_mem {x : PyData} : ∀ {xs : List PyData}, x ∈ xs → sz x + 2 ≤ szA xs
  | y :: ys, h => by
    rw [szA_cons]
    rcases List.mem_cons.1 h with h | h
    · subst h; omega
    · have := szA_mem h; omega
theorem szA_erase : ∀ (xs : List PyData) (n : Nat), szA (xs.eraseIdx n) ≤ szA xs
  | [], n => by simp
  | x :: xs, 0 => by rw [List.eraseIdx_cons_zero, szA_cons]; omega
  | x :: xs, n + 1 => by rw [List.eraseIdx_cons_succ, szA_cons, szA_cons]; have := szA_erase xs n; omega
theorem szA_set (d : PyData) : ∀ (xs : List PyData) (n : Nat) (e : PyData), xs[n]? = some e → szA (xs.set n d) + sz e = szA xs + sz d
  | [], n, e, h => by simp at h
  | x :: xs, 0, e, h => by simp at h; subst h; rw [List.set_cons_zero, szA_cons, szA_cons]; omega
  | x :: xs, n + 1, e, h => by rw [List.set_cons_succ, szA_cons, szA_cons]; have := szA_set d xs n e (by simpa using h); omega

/-- lists of at most l things, nested h deep, whole numbers below b -/
def Ok (l b : Nat) : Nat → PyData → Prop
  | _, .none => True
  | _, .bool _ => True
  | _, .int i => i.natAbs < b
  | _, .str s => PyData.strOk s = true ∧ s.length ≤ 100
  | h + 1, .list ds => ds.length ≤ l ∧ ∀ x ∈ ds, Ok l b h x
  | h + 1, .tuple ds => ds.length ≤ l ∧ ∀ x ∈ ds, Ok l b h x
  | _, _ => False
theorem Ok.mono {l l' b b' : Nat} (hl : l ≤ l') (hb : b ≤ b') : ∀ {h h' : Nat} {d : PyData}, h ≤ h' → Ok l b h d → Ok l' b' h' d
  | _, _, .none, _, _ => by simp [Ok]
  | _, _, .bool _, _, _ => by simp [Ok]
  | _, _, .int i, _, o => by simp [Ok] at o ⊢; omega
  | _, _, .str s, _, o => by simpa [Ok] using o
  | 0, _, .list ds, _, o => by simp [Ok] at o
  | 0, _, .tuple ds, _, o => by simp [Ok] at o
  | 0, _, .dict _, _, o => by simp [Ok] at o
  | _ + 1, _, .dict _, _, o => by simp [Ok] at o
  | h + 1, 0, .list ds, e, _ => by omega
  | h + 1, 0, .tuple ds, e, _ => by omega
  | h + 1, h' + 1, .list ds, e, o => by
    simp [Ok] at o ⊢
    exact ⟨by omega, fun x m => Ok.mono hl hb (by omega) (o.2 x m)⟩
  | h + 1, h' + 1, .tuple ds, e, o => by
    simp [Ok] at o ⊢
    exact ⟨by omega, fun x m => Ok.mono hl hb (by omega) (o.2 x m)⟩
theorem depthAll_le {n : Nat} : ∀ {ds : List PyData}, (∀ x ∈ ds, PyData.depth x ≤ n) → PyData.depthAll ds ≤ n
  | [], _ => by simp [PyData.depthAll]
  | d :: ds, h => by
    simp only [PyData.depthAll]
    exact Nat.max_le.2 ⟨h d (by simp), depthAll_le fun x m => h x (by simp [m])⟩
theorem canLayAll_of {ds : List PyData} (h : ∀ x ∈ ds, PyData.canLay0 x = true) : PyData.canLayAll0 ds = true := by
  induction ds with
  | nil => simp [PyData.canLayAll0]
  | cons d ds ih => simp only [PyData.canLayAll0, h d (by simp), ih fun x m => h x (by simp [m]), Bool.and_self]
theorem showAll_of {ds : List PyData} (h : ∀ x ∈ ds, PyData.showable x = true) : PyData.showableAll ds = true := by
  induction ds with
  | nil => simp [PyData.showableAll]
  | cons d ds ih => simp only [PyData.showableAll, h d (by simp), ih fun x m => h x (by simp [m]), Bool.and_self]
theorem Ok.depth {l b : Nat} : ∀ {h : Nat} {d : PyData}, Ok l b h d → PyData.depth d ≤ h
  | _, .none, _ => by simp [PyData.depth]
  | _, .bool _, _ => by simp [PyData.depth]
  | _, .int i, _ => by simp [PyData.depth]
  | _, .str s, _ => by simp [PyData.depth]
  | 0, .list ds, o => by simp [Ok] at o
  | 0, .tuple ds, o => by simp [Ok] at o
  | 0, .dict _, o => by simp [Ok] at o
  | _ + 1, .dict _, o => by simp [Ok] at o
  | h + 1, .list ds, o => by simp [Ok] at o; simp only [PyData.depth]; have := depthAll_le fun x m => (o.2 x m).depth; omega
  | h + 1, .tuple ds, o => by simp [Ok] at o; simp only [PyData.depth]; have := depthAll_le fun x m => (o.2 x m).depth; omega
theorem Ok.lay {l b : Nat} : ∀ {h : Nat} {d : PyData}, Ok l b h d → PyData.canLay0 d = true
  | _, .none, _ => by simp [PyData.canLay0]
  | _, .bool _, _ => by simp [PyData.canLay0]
  | _, .int i, _ => by simp [PyData.canLay0]
  | _, .str s, o => by simp [Ok] at o; simp [PyData.canLay0, o.1]
  | 0, .list ds, o => by simp [Ok] at o
  | 0, .tuple ds, o => by simp [Ok] at o
  | 0, .dict _, o => by simp [Ok] at o
  | _ + 1, .dict _, o => by simp [Ok] at o
  | h + 1, .list ds, o => by simp [Ok] at o; simp only [PyData.canLay0]; exact canLayAll_of fun x m => (o.2 x m).lay
  | h + 1, .tuple ds, o => by simp [Ok] at o; simp only [PyData.canLay0]; exact canLayAll_of fun x m => (o.2 x m).lay
theorem Ok.show {l b : Nat} (hb : b ≤ 10 ^ 50) : ∀ {h : Nat} {d : PyData}, Ok l b h d → PyData.showable d = true
  | _, .none, _ => by simp [PyData.showable]
  | _, .bool _, _ => by simp [PyData.showable]
  | _, .int i, o => by
    simp only [Ok] at o
    simp only [PyData.showable, decide_eq_true_eq]
    by_cases z : i.natAbs = 0
    · rw [z]; decide
    · exact (Nat.log2_lt z).2 (Nat.lt_of_lt_of_le (Nat.lt_of_lt_of_le o hb) (Nat.le_trans (show 10 ^ 50 ≤ 2 ^ 200 by decide) (Nat.pow_le_pow_right (by decide) (by decide))))
  | _, .str s, o => by simp [PyData.showable]
  | 0, .list ds, o => by simp [Ok] at o
  | 0, .tuple ds, o => by simp [Ok] at o
  | 0, .dict _, o => by simp [Ok] at o
  | _ + 1, .dict _, o => by simp [Ok] at o
  | h + 1, .list ds, o => by simp [Ok] at o; simp only [PyData.showable]; exact showAll_of fun x m => (o.2 x m).show hb
  | h + 1, .tuple ds, o => by simp [Ok] at o; simp only [PyData.showable]; exact showAll_of fun x m => (o.2 x m).show hb
theorem Ok.shaped {l b h : Nat} {d : PyData} (o : Ok l b h d) (hh : h ≤ 60) : SeqAt.shaped d = true := by
  have := o.depth
  simp only [SeqAt.shaped, o.lay, Bool.true_and, decide_eq_true_eq]; omega
/-! length of texts -/
theorem reprChar_len (q c : Nat) (h : c < 0x110000) : (Builtin.Str.reprChar q c).length ≤ 10 := by
  have hd : (Nat.toDigits 16 c).length ≤ 8 := (Nat.length_toDigits_le_iff (by decide) (by decide)).2 (by omega)
  unfold Builtin.Str.reprChar
  repeat' split
  all_goals simp
  all_goals omega
theorem reprText_len (x : Str) (h : PyData.strOk x = true) : (reprText x).length ≤ 10 * x.length + 2 := by
  rw [← reprLen_eq]
  have h' : ∀ c ∈ x.cps.toList, c < 0x110000 := by
    intro c m
    simp only [PyData.strOk] at h
    rw [← Array.all_toList, List.all_eq_true] at h
    simpa using h c m
  rw [← Array.foldl_toList]
  show _ ≤ 10 * x.cps.size + 2
  rw [← Array.length_toList]
  generalize reprQuote x = q
  revert h'
  generalize x.cps.toList = l
  have key : ∀ (l : List Nat) (a : Nat), (∀ c ∈ l, c < 0x110000) → l.foldl (fun n c => n + (Builtin.Str.reprChar q c).length) a ≤ 10 * l.length + a := by
    intro l
    induction l with
    | nil => intro a _; simp
    | cons c r ih =>
      intro a h
      have h1 := ih (a + (Builtin.Str.reprChar q c).length) fun c m => h c (by simp [m])
      have h2 := reprChar_len q c (h c (by simp))
      simp only [List.foldl_cons, List.length_cons]
      omega
  exact fun h' => key l 2 h'
theorem listText_len (ts : List Str) : (listText ts).length ≤ piled ts + 2 := by
  unfold listText
  rw [strLen_append]
  have e1 : (("]" : String) : Str).length = 1 := rfl
  have e2 : (("[" : String) : Str).length = 1 := rfl
  rw [e1]
  cases ts with
  | nil => show (("[" : String) : Str).length + 1 ≤ _; rw [e2]; omega
  | cons t r =>
    have : textFrom 0 "[" (t :: r) = textFrom 1 (("[" : String) ++ ((if 0 > 0 then ", " else "" : String) : Str) ++ t) r := rfl
    rw [this, textFrom_length_pos r 1 _ (by decide), strLen_append, strLen_append, e2, piled_cons]
    have e3 : (((if 0 > 0 then ", " else "" : String)) : Str).length = 0 := rfl
    rw [e3]; omega
theorem tupleText_len (ts : List Str) : (tupleText ts).length ≤ piled ts + 3 := by
  unfold tupleText
  rw [strLen_append, strLen_append]
  have e1 : (("(" : String) : Str).length = 1 := rfl
  have e3 : (((if ts.length == 1 then ",)" else ")" : String) : Str)).length ≤ 2 := by split <;> decide
  rw [e1]
  by_cases h : ts = []
  · subst h
    have e4 : (Str.join ", " ([] : List Str)).length = 0 := rfl
    rw [e4]; simp [piled_nil] at *; omega
  · have := join_length_add ts h; omega
theorem piled_shown {n : Nat} : ∀ {ds : List PyData}, (∀ x ∈ ds, (PyData.shown x).length ≤ sz x) → piled (PyData.shownAll ds) ≤ szA ds
  | [], _ => by simp [PyData.shownAll, piled_nil]
  | d :: ds, h => by
    simp only [PyData.shownAll]
    rw [piled_cons, szA_cons]
    have := h d (by simp)
    have := piled_shown (n := n) (ds := ds) fun x m => h x (by simp [m])
    omega
theorem Ok.text {l b : Nat} (hb : b ≤ 10 ^ 50) : ∀ {h : Nat} {d : PyData}, Ok l b h d → (PyData.shown d).length ≤ sz d
  | _, .none, _ => by simp only [PyData.shown, sz]; decide
  | _, .bool t, _ => by simp only [PyData.shown, sz]; cases t <;> decide
  | _, .int i, o => by
    simp only [Ok] at o
    simp only [PyData.shown, sz]
    have := int_text_length_le10 (a := i) (k := 50) (by decide) (by omega)
    have e : (Str.ofString (toString i)).length = (toString i).length := PySem.ofString_length _
    rw [e]; omega
  | _, .str s, o => by
    simp only [Ok] at o
    simp only [PyData.shown, sz]
    have := reprText_len s o.1; omega
  | 0, .list ds, o => by simp [Ok] at o
  | 0, .tuple ds, o => by simp [Ok] at o
  | 0, .dict _, o => by simp [Ok] at o
  | _ + 1, .dict _, o => by simp [Ok] at o
  | h + 1, .list ds, o => by
    simp [Ok] at o; simp only [PyData.shown, sz]
    have h1 := listText_len (PyData.shownAll ds)
    have h2 := piled_shown (n := 0) fun x m => (o.2 x m).text hb
    omega
  | h + 1, .tuple ds, o => by
    simp [Ok] at o; simp only [PyData.shown, sz]
    have h1 := tupleText_len (PyData.shownAll ds)
    have h2 := piled_shown (n := 0) fun x m => (o.2 x m).text hb
    omega
theorem Ok.repr {l b h : Nat} {d : PyData} (o : Ok l b h d) (hb : b ≤ 10 ^ 50) (hh : h ≤ 60) (hz : sz d ≤ 10000000) : okRepr d = true := by
  have h1 := o.depth
  have h2 := o.text hb
  have h3 : sizeLine = 16777216 := rfl
  have h4 := o.show hb
  simp only [okRepr, h4, PyData.hasDict_of_canLay d o.lay, Bool.not_false, Bool.true_and, Bool.and_eq_true, decide_eq_true_eq]
  omega
theorem strOk_text (s : String) : PyData.strOk (Str.ofString s) = true := by
  rw [Str.ofString_eq_toList]
  simp only [PyData.strOk, List.all_toArray, List.all_map]
  rw [List.all_eq_true]
  intro c _
  have h := c.valid
  simp only [UInt32.isValidChar, Nat.isValidChar] at h
  have ht : c.toNat = c.val.toNat := rfl
  simp only [Function.comp, decide_eq_true_eq, ht]
  omega
theorem len_text {i : Int} {b : Nat} (o : i.natAbs < b) (hb : b ≤ 10 ^ 50) : (Str.ofString (toString i)).length ≤ 60 := by
  have := int_text_length_le10 (a := i) (k := 50) (by decide) (by omega)
  have e : (Str.ofString (toString i)).length = (toString i).length := PySem.ofString_length _
  omega
end Rf

/-! Rk2: ascending lists, tables, comprehensions. -/
namespace Rf
open PySem PySem.Spec PyProof.Rows L2
def asc : List Int → Bool
  | x :: y :: r => decide (x < y) && asc (y :: r)
  | _ => true
theorem asc_tail {x : Int} {r : List Int} (h : asc (x :: r) = true) : asc r = true := by
  cases r with
  | nil => rfl
  | cons y r => simp [asc] at h; exact h.2
theorem insU_asc {x : Int} : ∀ {l : List Int}, asc l = true → asc (insU x l) = true
  | [], _ => rfl
  | [y], _ => by
    simp only [insU]
    split
    · simp [asc]; assumption
    · split
      · rfl
      · simp [insU, asc]; omega
  | y :: z :: r, h => by
    simp only [insU]
    split
    · simp only [asc, Bool.and_eq_true, decide_eq_true_eq] at h ⊢; exact ⟨by assumption, h⟩
    · split
      · exact h
      · have ih := insU_asc (x := x) (l := z :: r) (asc_tail h)
        simp only [asc, Bool.and_eq_true, decide_eq_true_eq] at h
        simp only [insU] at ih ⊢
        split
        · rename_i hz; rw [if_pos hz] at ih; simp only [asc, Bool.and_eq_true, decide_eq_true_eq] at ih ⊢; exact ⟨by omega, ih⟩
        · rename_i hz; rw [if_neg hz] at ih
          split
          · simp only [asc, Bool.and_eq_true, decide_eq_true_eq]; exact h
          · rename_i hq; rw [if_neg hq] at ih; simp only [asc, Bool.and_eq_true, decide_eq_true_eq]; exact ⟨h.1, ih⟩
theorem sortU_asc : ∀ l : List Int, asc (sortU l) = true
  | [] => rfl
  | x :: r => by show asc (insU x (sortU r)) = true; exact insU_asc (sortU_asc r)
theorem sortU_of_asc : ∀ {l : List Int}, asc l = true → sortU l = l
  | [], _ => rfl
  | [x], _ => rfl
  | x :: y :: r, h => by
    show insU x (sortU (y :: r)) = _
    rw [sortU_of_asc (asc_tail h)]
    simp only [asc, Bool.and_eq_true, decide_eq_true_eq] at h
    simp only [insU]; rw [if_pos h.1]
theorem sortU_iff (l : List Int) : decide (l = sortU l) = asc l := by
  by_cases h : asc l = true
  · rw [h, sortU_of_asc h]; simp
  · have : ¬ l = sortU l := fun e => h (by rw [e]; exact sortU_asc l)
    simp only [this, decide_false]; revert h; cases asc l <;> simp
theorem eqvAll_ints : ∀ a b : List Int, PyData.eqvAll (a.map .int) (b.map .int) = decide (a = b)
  | [], [] => by simp [PyData.eqvAll]
  | [], _ :: _ => by simp [PyData.eqvAll]
  | _ :: _, [] => by simp [PyData.eqvAll]
  | x :: a, y :: b => by
    simp only [List.map_cons, PyData.eqvAll, PyData.eqv, eqvAll_ints a b, List.cons.injEq, Bool.decide_and]
    rfl
theorem intsD_map (l : List Int) : intsD (l.map .int) = some l := by
  induction l with
  | nil => rfl
  | cons x l ih => simp [intsD, ih]
theorem boolsD_map {α : Type} (f : α → Bool) (l : List α) : boolsD (l.map fun x => .bool (f x)) = some (l.map f) := by
  induction l with
  | nil => rfl
  | cons x l ih => simp [boolsD, ih]
theorem shaped_ints (l : List Int) : SeqAt.shaped (.list (l.map .int)) = true := by
  have h : Ok l.length ((l.map Int.natAbs).sum + 1) 1 (.list (l.map .int)) := by
    refine ⟨by simp, fun x m => ?_⟩
    obtain ⟨i, hi, rfl⟩ := List.mem_map.1 m
    show i.natAbs < _
    have : i.natAbs ≤ (l.map Int.natAbs).sum := by
      clear m
      induction l with
      | nil => simp at hi
      | cons y l ih =>
        rcases List.mem_cons.1 hi with h | h
        · subst h; simp
        · have := ih h; simp; omega
    omega
  exact h.shaped (by omega)
/-! tables of classes -/
theorem kb_int_int : kitB "int" "int" = some true := by decide +kernel
theorem kb_bool_int : kitB "bool" "int" = some true := by decide +kernel
theorem kb_none_int : kitB "NoneType" "int" = some false := by decide +kernel
theorem kb_str_int : kitB "str" "int" = some false := by decide +kernel
theorem kb_list_int : kitB "list" "int" = some false := by decide +kernel
theorem kb_tuple_int : kitB "tuple" "int" = some false := by decide +kernel
theorem kb_int_bool : kitB "int" "bool" = some false := by decide +kernel
theorem kb_bool_bool : kitB "bool" "bool" = some true := by decide +kernel
theorem kb_none_bool : kitB "NoneType" "bool" = some false := by decide +kernel
theorem kb_str_bool : kitB "str" "bool" = some false := by decide +kernel
theorem kb_list_bool : kitB "list" "bool" = some false := by decide +kernel
theorem kb_tuple_bool : kitB "tuple" "bool" = some false := by decide +kernel
theorem kb_int_list : kitB "int" "list" = some false := by decide +kernel
theorem kb_bool_list : kitB "bool" "list" = some false := by decide +kernel
theorem kb_none_list : kitB "NoneType" "list" = some false := by decide +kernel
theorem kb_str_list : kitB "str" "list" = some false := by decide +kernel
theorem kb_list_list : kitB "list" "list" = some true := by decide +kernel
theorem kb_tuple_list : kitB "tuple" "list" = some false := by decide +kernel
theorem kb_int_tuple : kitB "int" "tuple" = some false := by decide +kernel
theorem kb_bool_tuple : kitB "bool" "tuple" = some false := by decide +kernel
theorem kb_none_tuple : kitB "NoneType" "tuple" = some false := by decide +kernel
theorem kb_str_tuple : kitB "str" "tuple" = some false := by decide +kernel
theorem kb_list_tuple : kitB "list" "tuple" = some false := by decide +kernel
theorem kb_tuple_tuple : kitB "tuple" "tuple" = some true := by decide +kernel
theorem kb_int_str : kitB "int" "str" = some false := by decide +kernel
theorem kb_bool_str : kitB "bool" "str" = some false := by decide +kernel
theorem kb_none_str : kitB "NoneType" "str" = some false := by decide +kernel
theorem kb_str_str : kitB "str" "str" = some true := by decide +kernel
theorem kb_list_str : kitB "list" "str" = some false := by decide +kernel
theorem kb_tuple_str : kitB "tuple" "str" = some false := by decide +kernel
def plainD : PyData → Bool
  | .dict _ => false
  | _ => true
def tInt : PyData → Bool
  | .bool _ => true
  | .int _ => true
  | _ => false
def tBool : PyData → Bool
  | .bool _ => true
  | _ => false
def tList : PyData → Bool
  | .list _ => true
  | _ => false
def tTuple : PyData → Bool
  | .tuple _ => true
  | _ => false
theorem any_int {d : PyData} (h : plainD d = true) : isAny d ["int"] = some (tInt d) := by
  cases d <;> simp [plainD] at h <;> simp only [isAny, isTy, tInt, kb_int_int, kb_bool_int, kb_none_int, kb_str_int, kb_list_int, kb_tuple_int]
theorem any_bool {d : PyData} (h : plainD d = true) : isAny d ["bool"] = some (tBool d) := by
  cases d <;> simp [plainD] at h <;> simp only [isAny, isTy, tBool, kb_int_bool, kb_bool_bool, kb_none_bool, kb_str_bool, kb_list_bool, kb_tuple_bool]
theorem any_list {d : PyData} (h : plainD d = true) : isAny d ["list"] = some (tList d) := by
  cases d <;> simp [plainD] at h <;> simp only [isAny, isTy, tList, kb_int_list, kb_bool_list, kb_none_list, kb_str_list, kb_list_list, kb_tuple_list]
theorem any_tuple {d : PyData} (h : plainD d = true) : isAny d ["tuple"] = some (tTuple d) := by
  cases d <;> simp [plainD] at h <;> simp only [isAny, isTy, tTuple, kb_int_tuple, kb_bool_tuple, kb_none_tuple, kb_str_tuple, kb_list_tuple, kb_tuple_tuple]
theorem any_seq {d : PyData} (h : plainD d = true) : isAny d ["list", "tuple"] = some (tList d || tTuple d) := by
  cases d <;> simp [plainD] at h <;> simp only [isAny, isTy, tTuple, tList, kb_int_tuple, kb_bool_tuple, kb_none_tuple, kb_str_tuple, kb_list_tuple, kb_tuple_tuple, kb_int_list, kb_bool_list, kb_none_list, kb_str_list, kb_list_list, kb_tuple_list, Bool.or_true, Bool.or_false, Bool.true_or, Bool.false_or]
theorem Ok.plain {l b h : Nat} {d : PyData} (o : Ok l b h d) : plainD d = true := by
  cases d with
  | dict _ => cases h <;> simp [Ok] at o
  | _ => rfl
theorem ia_none_int : isAny .none ["int"] = some false := by simp only [isAny, isTy, kb_none_int]
theorem ia_none_bool : isAny .none ["bool"] = some false := by simp only [isAny, isTy, kb_none_bool]
theorem ia_none_list : isAny .none ["list"] = some false := by simp only [isAny, isTy, kb_none_list]
theorem ia_none_tuple : isAny .none ["tuple"] = some false := by simp only [isAny, isTy, kb_none_tuple]
theorem ia_none_str : isAny .none ["str"] = some false := by simp only [isAny, isTy, kb_none_str]
theorem ia_none_seq : isAny .none ["list", "tuple"] = some false := by simp only [isAny, isTy, kb_none_list, kb_none_tuple]
theorem ia_bool_int (b : Bool) : isAny (.bool b) ["int"] = some true := by simp only [isAny, isTy, kb_bool_int]
theorem ia_bool_bool (b : Bool) : isAny (.bool b) ["bool"] = some true := by simp only [isAny, isTy, kb_bool_bool]
theorem ia_bool_list (b : Bool) : isAny (.bool b) ["list"] = some false := by simp only [isAny, isTy, kb_bool_list]
theorem ia_bool_tuple (b : Bool) : isAny (.bool b) ["tuple"] = some false := by simp only [isAny, isTy, kb_bool_tuple]
theorem ia_bool_str (b : Bool) : isAny (.bool b) ["str"] = some false := by simp only [isAny, isTy, kb_bool_str]
theorem ia_bool_seq (b : Bool) : isAny (.bool b) ["list", "tuple"] = some false := by simp only [isAny, isTy, kb_bool_list, kb_bool_tuple]
theorem ia_int_int (i : Int) : isAny (.int i) ["int"] = some true := by simp only [isAny, isTy, kb_int_int]
theorem ia_int_bool (i : Int) : isAny (.int i) ["bool"] = some false := by simp only [isAny, isTy, kb_int_bool]
theorem ia_int_list (i : Int) : isAny (.int i) ["list"] = some false := by simp only [isAny, isTy, kb_int_list]
theorem ia_int_tuple (i : Int) : isAny (.int i) ["tuple"] = some false := by simp only [isAny, isTy, kb_int_tuple]
theorem ia_int_str (i : Int) : isAny (.int i) ["str"] = some false := by simp only [isAny, isTy, kb_int_str]
theorem ia_int_seq (i : Int) : isAny (.int i) ["list", "tuple"] = some false := by simp only [isAny, isTy, kb_int_list, kb_int_tuple]
theorem ia_str_int (s : Str) : isAny (.str s) ["int"] = some false := by simp only [isAny, isTy, kb_str_int]
theorem ia_str_bool (s : Str) : isAny (.str s) ["bool"] = some false := by simp only [isAny, isTy, kb_str_bool]
theorem ia_str_list (s : Str) : isAny (.str s) ["list"] = some false := by simp only [isAny, isTy, kb_str_list]
theorem ia_str_tuple (s : Str) : isAny (.str s) ["tuple"] = some false := by simp only [isAny, isTy, kb_str_tuple]
theorem ia_str_str (s : Str) : isAny (.str s) ["str"] = some true := by simp only [isAny, isTy, kb_str_str]
theorem ia_str_seq (s : Str) : isAny (.str s) ["list", "tuple"] = some false := by simp only [isAny, isTy, kb_str_list, kb_str_tuple]
theorem ia_list_int (xs : List PyData) : isAny (.list xs) ["int"] = some false := by simp only [isAny, isTy, kb_list_int]
theorem ia_list_bool (xs : List PyData) : isAny (.list xs) ["bool"] = some false := by simp only [isAny, isTy, kb_list_bool]
theorem ia_list_list (xs : List PyData) : isAny (.list xs) ["list"] = some true := by simp only [isAny, isTy, kb_list_list]
theorem ia_list_tuple (xs : List PyData) : isAny (.list xs) ["tuple"] = some false := by simp only [isAny, isTy, kb_list_tuple]
theorem ia_list_str (xs : List PyData) : isAny (.list xs) ["str"] = some false := by simp only [isAny, isTy, kb_list_str]
theorem ia_list_seq (xs : List PyData) : isAny (.list xs) ["list", "tuple"] = some true := by simp only [isAny, isTy, kb_list_list, kb_list_tuple]
theorem ia_tuple_int (xs : List PyData) : isAny (.tuple xs) ["int"] = some false := by simp only [isAny, isTy, kb_tuple_int]
theorem ia_tuple_bool (xs : List PyData) : isAny (.tuple xs) ["bool"] = some false := by simp only [isAny, isTy, kb_tuple_bool]
theorem ia_tuple_list (xs : List PyData) : isAny (.tuple xs) ["list"] = some false := by simp only [isAny, isTy, kb_tuple_list]
theorem ia_tuple_tuple (xs : List PyData) : isAny (.tuple xs) ["tuple"] = some true := by simp only [isAny, isTy, kb_tuple_tuple]
theorem ia_tuple_str (xs : List PyData) : isAny (.tuple xs) ["str"] = some false := by simp only [isAny, isTy, kb_tuple_str]
theorem ia_tuple_seq (xs : List PyData) : isAny (.tuple xs) ["list", "tuple"] = some true := by simp only [isAny, isTy, kb_tuple_list, kb_tuple_tuple]
/-! comprehensions -/
theorem compM_map {g : MG} {me : ME} {vs : List Nat} (f : PyData → PyData) (fm : Fm) : ∀ (ds acc : List PyData), (∀ d ∈ ds, ∃ fm1 v fm2 fm3, g d fm = some fm1 ∧ me fm1 = some (v, fm2) ∧ frz v fm2 = some (f d, fm3) ∧ wipeF fm3 vs = fm) → acc.length + ds.length ≤ sizeLine →
    compM g mYes me vs ds fm acc = some (acc ++ ds.map f, fm)
  | [], acc, _, _ => by simp [compM]
  | d :: ds, acc, h, hs => by
    obtain ⟨fm1, v, fm2, fm3, h1, h2, h3, h4⟩ := h d (by simp)
    have h5 : acc.length < sizeLine := by simp at hs; omega
    have ih := compM_map (g := g) (me := me) (vs := vs) f fm ds (acc ++ [f d]) (fun e m => h e (by simp [m])) (by simp at hs ⊢; omega)
    simp only [compM, h1, mYes, h2, h3, h4, if_pos h5, ih, List.map_cons, List.append_assoc, List.cons_append, List.nil_append]
/-- with a state that the steps lead on -/
theorem compM_inv {g : MG} {me : ME} {vs : List Nat} (I : Nat → Fm → Prop) (P : PyData → Prop) : ∀ (ds acc : List PyData) (k : Nat) (fm : Fm), (∀ d ∈ ds, ∀ k fm, I k fm → ∃ fm1 v fm2 r fm3, g d fm = some fm1 ∧ me fm1 = some (v, fm2) ∧ frz v fm2 = some (r, fm3) ∧ P r ∧ I (k + 1) (wipeF fm3 vs)) → I k fm → acc.length + ds.length ≤ sizeLine → (∀ x ∈ acc, P x) →
    ∃ out fm', compM g mYes me vs ds fm acc = some (out, fm') ∧ out.length = acc.length + ds.length ∧ (∀ x ∈ out, P x) ∧ I (k + ds.length) fm'
  | [], acc, k, fm, _, i, _, p => ⟨acc, fm, by simp [compM], by simp, p, by simpa using i⟩
  | d :: ds, acc, k, fm, h, i, hs, p => by
    obtain ⟨fm1, v, fm2, r, fm3, h1, h2, h3, h4, h5⟩ := h d (by simp) k fm i
    have h6 : acc.length < sizeLine := by simp at hs; omega
    obtain ⟨out, fm', e1, e2, e3, e4⟩ := compM_inv (g := g) (me := me) (vs := vs) I P ds (acc ++ [r]) (k + 1) (wipeF fm3 vs) (fun e m => h e (by simp [m])) h5 (by simp at hs ⊢; omega) (fun x m => by
      rcases List.mem_append.1 m with m | m
      · exact p x m
      · simp at m; subst m; exact h4)
    refine ⟨out, fm', ?_, ?_, e3, ?_⟩
    · simp only [compM, h1, mYes, h2, h3, if_pos h6, e1]
    · simp at e2 ⊢; omega
    · have : k + (d :: ds).length = k + 1 + ds.length := by simp; omega
      rw [this]; exact e4
/-- loops with a state -/
theorem loopM_inv {g : MG} {m : MS} (I : Nat → Fm → Prop) : ∀ (ds : List PyData) (k : Nat) (fm : Fm), (∀ d ∈ ds, ∀ k fm, I k fm → ∃ fm1 fm2, g d fm = some fm1 ∧ m fm1 = some (.nx, fm2) ∧ I (k + 1) fm2) → I k fm → ∃ fm', loopM g m ds fm = some (.nx, fm') ∧ I (k + ds.length) fm'
  | [], k, fm, _, i => ⟨fm, by simp [loopM], by simpa using i⟩
  | d :: ds, k, fm, h, i => by
    obtain ⟨fm1, fm2, h1, h2, h3⟩ := h d (by simp) k fm i
    obtain ⟨fm', e1, e2⟩ := loopM_inv (g := g) (m := m) I ds (k + 1) fm2 (fun e m => h e (by simp [m])) h3
    refine ⟨fm', by simp only [loopM, h1, h2, e1], ?_⟩
    have : k + (d :: ds).length = k + 1 + ds.length := by simp; omega
    rw [this]; exact e2
end Rf

/-! Rk3: the meanings, applied. -/
namespace Rf
open PySem PySem.Spec PyProof.Rows L2
theorem mVar_ap (i : Nat) (fm : Fm) : mVar i fm = (match fm[i]? with
  | some (some (.dat d)) => some (.dat d, fm)
  | some (some (.own _)) => some (.bor i, fm)
  | _ => none) := rfl
theorem mLit_ap (d : PyData) (fm : Fm) : mLit d fm = some (.dat d, fm) := rfl
theorem m2_ap (f : F2) (ma mb : ME) (fm : Fm) : m2 f ma mb fm = (match ma fm with
  | some (va, fm1) => match mb fm1 with
    | some (vb, fm2) => f va vb fm2
    | none => none
  | none => none) := rfl
theorem mB_ap (m : ME) (fm : Fm) : mB m fm = (match m fm with
  | some (.dat (.bool b), fm1) => some (b, fm1)
  | _ => none) := rfl
theorem mAndT_ap (m n : MT) (fm : Fm) : mAndT m n fm = (match m fm with
  | some (true, fm1) => n fm1
  | some (false, fm1) => some (false, fm1)
  | none => none) := rfl
theorem mOrT_ap (m n : MT) (fm : Fm) : mOrT m n fm = (match m fm with
  | some (false, fm1) => n fm1
  | some (true, fm1) => some (true, fm1)
  | none => none) := rfl
theorem mNotT_ap (m : MT) (fm : Fm) : mNotT m fm = (match m fm with
  | some (k, fm1) => some (!k, fm1)
  | none => none) := rfl
theorem mAndV_ap (ma mb : ME) (fm : Fm) : mAndV ma mb fm = (match ma fm with
  | some (.dat (.bool true), fm1) => mb fm1
  | some (.dat (.bool false), fm1) => some (.dat (.bool false), fm1)
  | _ => none) := rfl
theorem mOrV_ap (ma mb : ME) (fm : Fm) : mOrV ma mb fm = (match ma fm with
  | some (.dat (.bool false), fm1) => mb fm1
  | some (.dat (.bool true), fm1) => some (.dat (.bool true), fm1)
  | _ => none) := rfl
theorem mNotV_ap (ma : ME) (fm : Fm) : mNotV ma fm = (match ma fm with
  | some (.dat (.bool k), fm1) => some (.dat (.bool (!k)), fm1)
  | _ => none) := rfl
theorem mIfE_ap (mc : MT) (ma mb : ME) (fm : Fm) : mIfE mc ma mb fm = (match mc fm with
  | some (true, fm1) => ma fm1
  | some (false, fm1) => mb fm1
  | none => none) := rfl
theorem mNil_ap (fm : Fm) : mNil  fm = some ([], fm) := rfl
theorem mCons_ap (ma : ME) (mr : MA) (fm : Fm) : mCons ma mr fm = (match ma fm with
  | some (v, fm1) => match mr fm1 with
    | some (vs, fm2) => some (v :: vs, fm2)
    | none => none
  | none => none) := rfl
theorem mDisp_ap (mk : List PyData → SV) (m : MA) (fm : Fm) : mDisp mk m fm = (match m fm with
  | some (vs, fm1) => match frzAll vs fm1 with
    | some (ds, fm2) => if ds.length ≤ sizeLine then some (mk ds, fm2) else none
    | none => none
  | none => none) := rfl
theorem gSet_ap (i : Nat) (d : PyData) (fm : Fm) : gSet i d fm = some (fm.set i (some (.dat d))) := rfl
theorem gsNil_ap (ds : List PyData) (fm : Fm) : gsNil  ds fm = (match ds with
  | [] => some fm
  | _ => none) := rfl
theorem gsCons_ap (g : MG) (r : MGs) (ds : List PyData) (fm : Fm) : gsCons g r ds fm = (match ds with
  | d :: ds => match g d fm with
    | some fm1 => r ds fm1
    | none => none
  | [] => none) := rfl
theorem gTupD_ap (n : Nat) (r : MGs) (d : PyData) (fm : Fm) : gTupD n r d fm = (match d with
  | .tuple ds => if ds.length = n then r ds fm else none
  | .list ds => if ds.length = n then r ds fm else none
  | _ => none) := rfl
theorem mSet_ap (i : Nat) (m : ME) (fm : Fm) : mSet i m fm = (match m fm with
  | some (v, fm1) => match sto i v fm1 with
    | some fm2 => some (.nx, fm2)
    | none => none
  | none => none) := rfl
theorem mAsg_ap (g : MG) (m : ME) (fm : Fm) : mAsg g m fm = (match m fm with
  | some (v, fm1) => match frz v fm1 with
    | some (d, fm2) => match g d fm2 with
      | some fm3 => some (.nx, fm3)
      | none => none
    | none => none
  | none => none) := rfl
theorem mPar_ap (is : List Nat) (m : MA) (fm : Fm) : mPar is m fm = (match m fm with
  | some (vs, fm1) => match resAll vs fm1 with
    | some (ws, fm2) => match stoAll is ws fm2 with
      | some fm3 => some (.nx, fm3)
      | none => none
    | none => none
  | none => none) := rfl
theorem mExpr_ap (m : ME) (fm : Fm) : mExpr m fm = (match m fm with
  | some (_, fm1) => some (.nx, fm1)
  | none => none) := rfl
theorem mRet_ap (m : ME) (fm : Fm) : mRet m fm = (match m fm with
  | some (v, fm1) => some (.rt v, fm1)
  | none => none) := rfl
theorem mRetN_ap (fm : Fm) : mRetN  fm = some (.rt (.dat .none), fm) := rfl
theorem mNext_ap (fm : Fm) : mNext  fm = some (.nx, fm) := rfl
theorem mBreak_ap (fm : Fm) : mBreak  fm = some (.bk, fm) := rfl
theorem mCont_ap (fm : Fm) : mCont  fm = some (.ct, fm) := rfl
theorem mSeq_ap (m n : MS) (fm : Fm) : mSeq m n fm = (match m fm with
  | some (.nx, fm1) => n fm1
  | r => r) := rfl
theorem mIf_ap (c : MT) (m n : MS) (fm : Fm) : mIf c m n fm = (match c fm with
  | some (true, fm1) => m fm1
  | some (false, fm1) => n fm1
  | none => none) := rfl
theorem iSeq_ap (m : ME) (fm : Fm) : iSeq m fm = (match m fm with
  | some (v, fm1) => match frz v fm1 with
    | some (.list ds, fm2) => some (ds, fm2)
    | some (.tuple ds, fm2) => some (ds, fm2)
    | _ => none
  | none => none) := rfl
theorem iRan_ap (m : MA) (fm : Fm) : iRan m fm = (match m fm with
  | some ([.dat (.int j)], fm1) => if -(2 ^ 62) ≤ j ∧ j < 2 ^ 62 then some (intsFrom 0 j.toNat, fm1) else none
  | _ => none) := rfl
theorem iRan2_ap (m : MA) (fm : Fm) : iRan2 m fm = (match m fm with
  | some ([.dat (.int i), .dat (.int j)], fm1) => if (-(2 ^ 62) ≤ i ∧ i < 2 ^ 62) ∧ -(2 ^ 62) ≤ j ∧ j < 2 ^ 62 then some (intsFrom i (j - i).toNat, fm1) else none
  | _ => none) := rfl
theorem iEnm_ap (m : MA) (fm : Fm) : iEnm m fm = (match m fm with
  | some ([v], fm1) => match frz v fm1 with
    | some (.list ds, fm2) => some (enum ds, fm2)
    | _ => none
  | _ => none) := rfl
theorem iZp_ap (m : MA) (fm : Fm) : iZp m fm = (match m fm with
  | some (vs, fm1) => match frzAll vs fm1 with
    | some ([.list ds, .list es], fm2) => some (zip2 ds es, fm2)
    | some ([.tuple ds, .tuple es], fm2) => some (zip2 ds es, fm2)
    | _ => none
  | _ => none) := rfl
theorem mFor_ap (mi : MI) (g : MG) (m : MS) (fm : Fm) : mFor mi g m fm = (match mi fm with
  | some (ds, fm1) => loopM g m ds fm1
  | none => none) := rfl
theorem mWhile_ap (n : Nat) (c : MT) (m : MS) (z0 : Fm) : mWhile n c m z0 = (whileM c m n) z0 := rfl
theorem mCall_ap (f : Dm) (ma : MA) (fm : Fm) : mCall f ma fm = (match ma fm with
  | none => none
  | some (vs, fm1) => match argsOf vs fm1 with
    | none => none
    | some as => if (bors vs).Nodup then (match f as with
      | some (.bor _, _) => none
      | some (r, outs) => some (r, wback vs outs fm1)
      | none => none) else none) := rfl
theorem mkD_ap (n N : Nat) (ro : List Nat) (m : MS) (as : List S0) : mkD n N ro m as = if as.length = n then (match m (as.map some ++ List.replicate (N - n) none) with
    | some (.rt v, fm1) => match retv as v fm1 with
      | some (r, fm2) => match outsFrom ro fm2 0 as with
        | some outs => some (r, outs)
        | none => none
      | none => none
    | some (.nx, fm1) => match outsFrom ro fm1 0 as with
      | some outs => some (.dat .none, outs)
      | none => none
    | _ => none) else none := rfl
theorem mLc_ap (n : Nat) (mi : MI) (g : MG) (mt : MT) (me : ME) (vs : List Nat) (fm : Fm) : mLc n mi g mt me vs fm = (match mi fm with
  | none => none
  | some (ds, fm1) => if fm.length ≤ n then (match compM g mt me vs ds (wipeF fm1 vs) [] with
    | none => none
    | some (acc, fm2) => match unwipe fm1 fm2 vs with
      | none => none
      | some fm3 => some (.fre (.lst acc), fm3)) else none) := rfl
theorem fI_ap (C : Int → Int → Bool) (g : Int → Int → PyData) (va : SV) (vb : SV) (fm : Fm) : fI C g va vb fm = (match peek va fm, peek vb fm with
  | some (.int i), some (.int j) => if C i j then some (.dat (g i j), fm) else none
  | _, _ => none) := rfl
theorem fAdd_ap (z0 : SV) (z1 : SV) (z2 : Fm) : fAdd  z0 z1 z2 = (fI cY fun i j => .int (i + j)) z0 z1 z2 := rfl
theorem fSub_ap (z0 : SV) (z1 : SV) (z2 : Fm) : fSub  z0 z1 z2 = (fI cY fun i j => .int (i - j)) z0 z1 z2 := rfl
theorem fMul_ap (z0 : SV) (z1 : SV) (z2 : Fm) : fMul  z0 z1 z2 = (fI cMul fun i j => .int (i * j)) z0 z1 z2 := rfl
theorem fMod_ap (z0 : SV) (z1 : SV) (z2 : Fm) : fMod  z0 z1 z2 = (fI cMod fun i j => .int (i % j)) z0 z1 z2 := rfl
theorem fDiv_ap (z0 : SV) (z1 : SV) (z2 : Fm) : fDiv  z0 z1 z2 = (fI cDiv fun i j => .int (i / j)) z0 z1 z2 := rfl
theorem fPow_ap (z0 : SV) (z1 : SV) (z2 : Fm) : fPow  z0 z1 z2 = (fI cPow fun i j => .int (i ^ j.toNat)) z0 z1 z2 := rfl
theorem fLt_ap (z0 : SV) (z1 : SV) (z2 : Fm) : fLt  z0 z1 z2 = (fI cY fun i j => .bool (decide (i < j))) z0 z1 z2 := rfl
theorem fLe_ap (z0 : SV) (z1 : SV) (z2 : Fm) : fLe  z0 z1 z2 = (fI cY fun i j => .bool (decide (i ≤ j))) z0 z1 z2 := rfl
theorem fGt_ap (z0 : SV) (z1 : SV) (z2 : Fm) : fGt  z0 z1 z2 = (fI cY fun i j => .bool (decide (i > j))) z0 z1 z2 := rfl
theorem fGe_ap (z0 : SV) (z1 : SV) (z2 : Fm) : fGe  z0 z1 z2 = (fI cY fun i j => .bool (decide (i ≥ j))) z0 z1 z2 := rfl
theorem fIsN_ap (va : SV) (vb : SV) (fm : Fm) : fIsN  va vb fm = (match peek va fm, peek vb fm with
  | some d, some .none => some (.dat (.bool (isNone d)), fm)
  | _, _ => none) := rfl
theorem fNotN_ap (va : SV) (vb : SV) (fm : Fm) : fNotN  va vb fm = (match peek va fm, peek vb fm with
  | some d, some .none => some (.dat (.bool (!isNone d)), fm)
  | _, _ => none) := rfl
theorem fIsB_ap (va : SV) (vb : SV) (fm : Fm) : fIsB  va vb fm = (match peek va fm, peek vb fm with
  | some (.bool a), some (.bool b) => some (.dat (.bool (decide (a = b))), fm)
  | _, _ => none) := rfl
theorem fIx_ap (va : SV) (vb : SV) (fm : Fm) : fIx  va vb fm = (match peek va fm, peek vb fm with
  | some (.list ds), some (.int i) => (atI ds i).map fun d => (.dat d, fm)
  | some (.tuple ds), some (.int i) => (atI ds i).map fun d => (.dat d, fm)
  | _, _ => none) := rfl
theorem fAddX_ap (va : SV) (vb : SV) (fm : Fm) : fAddX  va vb fm = (match peek va fm, peek vb fm with
  | some (.int i), some (.int j) => some (.dat (.int (i + j)), fm)
  | some (.list as), some (.list bs) => if as.length + bs.length ≤ sizeLine then some (.fre (.lst (as ++ bs)), fm) else none
  | some (.tuple as), some (.tuple bs) => if as.length + bs.length ≤ sizeLine then some (.dat (.tuple (as ++ bs)), fm) else none
  | some (.bool b), some (.int j) => some (.dat (.int (b2n b + j)), fm)
  | _, _ => none) := rfl
theorem fSubX_ap (va : SV) (vb : SV) (fm : Fm) : fSubX  va vb fm = (match peek va fm, peek vb fm with
  | some (.int i), some (.int j) => some (.dat (.int (i - j)), fm)
  | some (.bool b), some (.int j) => some (.dat (.int (b2n b - j)), fm)
  | some (.int i), some (.bool b) => some (.dat (.int (i - b2n b)), fm)
  | _, _ => none) := rfl
theorem fMulX_ap (va : SV) (vb : SV) (fm : Fm) : fMulX  va vb fm = (match peek va fm, peek vb fm with
  | some (.int i), some (.int j) => if cMul i j then some (.dat (.int (i * j)), fm) else none
  | some (.list _), some (.int k) => fMulL k va fm
  | _, _ => none) := rfl
theorem m1_ap (f : F1) (ma : ME) (fm : Fm) : m1 f ma fm = (match ma fm with
  | some (v, fm1) => f v fm1
  | none => none) := rfl
theorem fNeg_ap (va : SV) (fm : Fm) : fNeg  va fm = (match peek va fm with
  | some (.int i) => some (.dat (.int (-i)), fm)
  | _ => none) := rfl
theorem mB1_ap (f : FA) (ma : MA) (fm : Fm) : mB1 f ma fm = (match ma fm with
  | some (vs, fm1) => f vs fm1
  | none => none) := rfl
theorem fLen_ap (vs : List SV) (fm : Fm) : fLen  vs fm = (match vs with
  | [v] => match peek v fm with
    | some (.list ds) => some (.dat (.int ds.length), fm)
    | some (.tuple ds) => some (.dat (.int ds.length), fm)
    | _ => none
  | _ => none) := rfl
theorem fAbs_ap (vs : List SV) (fm : Fm) : fAbs  vs fm = (match vs with
  | [v] => match peek v fm with
    | some (.int i) => some (.dat (.int (if i < 0 then -i else i)), fm)
    | _ => none
  | _ => none) := rfl
theorem fInt_ap (vs : List SV) (fm : Fm) : fInt  vs fm = (match vs with
  | [v] => match peek v fm with
    | some (.int i) => some (.dat (.int i), fm)
    | some (.bool b) => some (.dat (.int (if b then 1 else 0)), fm)
    | _ => none
  | _ => none) := rfl
theorem fMin2_ap (vs : List SV) (fm : Fm) : fMin2  vs fm = (match vs with
  | [v, w] => match peek v fm, peek w fm with
    | some (.int i), some (.int j) => some (.dat (.int (if j < i then j else i)), fm)
    | _, _ => none
  | _ => none) := rfl
theorem fMax2_ap (vs : List SV) (fm : Fm) : fMax2  vs fm = (match vs with
  | [v, w] => match peek v fm, peek w fm with
    | some (.int i), some (.int j) => some (.dat (.int (if j > i then j else i)), fm)
    | _, _ => none
  | _ => none) := rfl
theorem fList_ap (vs : List SV) (fm : Fm) : fList  vs fm = (match vs with
  | [v] => match peek v fm with
    | some (.list ds) => some (.fre (.lst ds), fm)
    | some (.tuple ds) => some (.fre (.lst ds), fm)
    | _ => none
  | _ => none) := rfl
theorem fTuple_ap (vs : List SV) (fm : Fm) : fTuple  vs fm = (match vs with
  | [v] => match peek v fm with
    | some (.list ds) => some (.dat (.tuple ds), fm)
    | some (.tuple ds) => some (.dat (.tuple ds), fm)
    | _ => none
  | _ => none) := rfl
theorem fStr_ap (vs : List SV) (fm : Fm) : fStr  vs fm = (match vs with
  | [v] => match peek v fm with
    | some (.int i) => if i.natAbs.log2 < 1920 then some (.dat (.str (toString i)), fm) else none
    | some (.bool b) => some (.dat (.str (if b then "True" else "False")), fm)
    | _ => none
  | _ => none) := rfl
theorem mMt_ap (T : String) (f : FM) (mo : ME) (ma : MA) (fm : Fm) : mMt T f mo ma fm = (match mo fm with
  | some (o, fm1) => if tyD T o fm1 then (match ma fm1 with
    | some (vs, fm2) => f o vs fm2
    | none => none) else none
  | none => none) := rfl
theorem mMtZ_ap (T : String) (f : FZ) (mo : ME) (ma : MA) (fm : Fm) : mMtZ T f mo ma fm = (match mo fm with
  | some (o, fm1) => if tyD T o fm1 then (match ma fm1 with
    | some (vs, fm2) => match frzAll vs fm2 with
      | some (ds, fm3) => f o ds fm3
      | none => none
    | none => none) else none
  | none => none) := rfl
theorem fAppend_ap (o : SV) (ds : List PyData) (fm : Fm) : fAppend  o ds fm = (match o, ds with
  | .bor i, [d] => match fm[i]? with
    | some (some (.own (.lst xs))) => if xs.length < sizeLine then some (.dat .none, fm.set i (some (.own (.lst (xs ++ [d]))))) else none
    | _ => none
  | _, _ => none) := rfl
theorem fInsert_ap (o : SV) (ds : List PyData) (fm : Fm) : fInsert  o ds fm = (match o, ds with
  | .bor i, [.int k, d] => match fm[i]? with
    | some (some (.own (.lst xs))) => if xs.length < sizeLine ∧ 0 ≤ k ∧ k < 2 ^ 63 then some (.dat .none, fm.set i (some (.own (.lst (xs.take k.toNat ++ [d] ++ xs.drop k.toNat))))) else none
    | _ => none
  | _, _ => none) := rfl
theorem fExtend_ap (o : SV) (vs : List SV) (fm : Fm) : fExtend  o vs fm = (match o, vs with
  | .bor i, [.fre (.lst es)] => match fm[i]? with
    | some (some (.own (.lst xs))) => if xs.length + es.length ≤ sizeLine then some (.dat .none, fm.set i (some (.own (.lst (xs ++ es))))) else none
    | _ => none
  | _, _ => none) := rfl
theorem fPopAt_ap (o : SV) (vs : List SV) (fm : Fm) : fPopAt  o vs fm = (match o, vs with
  | .bor i, [w] => match fm[i]?, peek w fm with
    | some (some (.own (.lst xs))), some (.int k) => if -(2 ^ 63) ≤ k ∧ k < 2 ^ 63 then (match seqIndex? k xs.length with
      | some j => match xs[j]? with
        | some d => some (.dat d, fm.set i (some (.own (.lst (xs.eraseIdx j)))))
        | none => none
      | none => none) else none
    | _, _ => none
  | _, _ => none) := rfl
theorem mChain_ap (f f' : F2) (ma mb mc : ME) (fm : Fm) : mChain f f' ma mb mc fm = (match ma fm with
  | some (va, fm1) => match mb fm1 with
    | some (vb, fm2) => match f va vb fm2 with
      | some (.dat (.bool true), fm3) => match mc fm3 with
        | some (vc, fm4) => f' vb vc fm4
        | none => none
      | some (.dat (.bool false), fm3) => some (.dat (.bool false), fm3)
      | _ => none
    | none => none
  | none => none) := rfl
theorem oNone_ap (fm : Fm) : oNone  fm = some (none, fm) := rfl
theorem oSome_ap (m : ME) (fm : Fm) : oSome m fm = (match m fm with
  | some (.dat (.int i), fm1) => some (some i, fm1)
  | _ => none) := rfl
theorem mSl_ap (mo : ME) (ml mh : MO) (fm : Fm) : mSl mo ml mh fm = (match mo fm with
  | some (v, fm1) => match ml fm1 with
    | some (lo, fm2) => match mh fm2 with
      | some (hi, fm3) => match peek v fm3 with
        | some (.list ds) => some (.fre (.lst (cutD ds lo hi)), fm3)
        | some (.tuple ds) => some (.dat (.tuple (cutD ds lo hi)), fm3)
        | _ => none
      | none => none
    | none => none
  | none => none) := rfl
theorem gIx_ap (i : Nat) (mi : ME) (d : PyData) (fm : Fm) : gIx i mi d fm = (match fm[i]? with
  | some (some (.own _)) => match mi fm with
    | some (.dat (.int k), fm1) => match fm1[i]? with
      | some (some (.own (.lst ds))) => match ixN ds.length k with
        | some j => some (fm1.set i (some (.own (.lst (ds.set j d)))))
        | none => none
      | _ => none
    | _ => none
  | _ => none) := rfl
theorem fInX_ap (va : SV) (vb : SV) (fm : Fm) : fInX  va vb fm = (match peek va fm, peek vb fm with
  | some d, some e => match seqD e with
    | some ds => if SeqAt.shaped d && SeqAt.shaped e then some (.dat (.bool (ds.any fun z => PyData.eqv z d)), fm) else none
    | none => none
  | _, _ => none) := rfl
theorem fNotInX_ap (va : SV) (vb : SV) (fm : Fm) : fNotInX  va vb fm = (match peek va fm, peek vb fm with
  | some d, some e => match seqD e with
    | some ds => if SeqAt.shaped d && SeqAt.shaped e then some (.dat (.bool (!ds.any fun z => PyData.eqv z d)), fm) else none
    | none => none
  | _, _ => none) := rfl
theorem mIsi_ap (Ts : List String) (m : ME) (fm : Fm) : mIsi Ts m fm = (match m fm with
  | some (v, fm1) => match peek v fm1 with
    | some d => match isAny d Ts with
      | some b => some (.dat (.bool b), fm1)
      | none => none
    | none => none
  | none => none) := rfl
theorem fEqX_ap (va : SV) (vb : SV) (fm : Fm) : fEqX  va vb fm = (match peek va fm, peek vb fm with
  | some (.str a), some (.str b) => some (.dat (.bool (decide (a = b))), fm)
  | some d, some e => if SeqAt.shaped d && SeqAt.shaped e then some (.dat (.bool (PyData.eqv d e)), fm) else none
  | _, _ => none) := rfl
theorem fNeX_ap (va : SV) (vb : SV) (fm : Fm) : fNeX  va vb fm = (match peek va fm, peek vb fm with
  | some (.str a), some (.str b) => some (.dat (.bool (!decide (a = b))), fm)
  | some d, some e => if SeqAt.shaped d && SeqAt.shaped e then some (.dat (.bool (!PyData.eqv d e)), fm) else none
  | _, _ => none) := rfl
theorem fAll_ap (vs : List SV) (fm : Fm) : fAll  vs fm = (match vs with
  | [v] => match peek v fm with
    | some (.list ds) => match boolsD ds with
      | some bs => some (.dat (.bool (bs.all id)), fm)
      | none => none
    | _ => none
  | _ => none) := rfl
theorem fAny_ap (vs : List SV) (fm : Fm) : fAny  vs fm = (match vs with
  | [v] => match peek v fm with
    | some (.list ds) => match boolsD ds with
      | some bs => some (.dat (.bool (bs.any id)), fm)
      | none => none
    | _ => none
  | _ => none) := rfl
theorem fSum_ap (vs : List SV) (fm : Fm) : fSum  vs fm = (match vs with
  | [v] => match peek v fm with
    | some (.list ds) => match intsD ds with
      | some bs => some (.dat (.int bs.sum), fm)
      | none => none
    | _ => none
  | _ => none) := rfl
theorem fSorted_ap (vs : List SV) (fm : Fm) : fSorted  vs fm = (match vs with
  | [v] => match peek v fm with
    | some (.list ds) => match intsD ds with
      | some bs => some (.fre (.lst ((sortI bs).map .int)), fm)
      | none => none
    | _ => none
  | _ => none) := rfl
theorem fBest_ap (g : Int → Int → Int) (vs : List SV) (fm : Fm) : fBest g vs fm = (match vs with
  | [v] => match peek v fm with
    | some d => match seqD d with
      | some ds => match intsD ds with
        | some (n :: ns) => some (.dat (.int (ns.foldl g n)), fm)
        | _ => none
      | none => none
    | none => none
  | _ => none) := rfl
theorem fIdx_ap (T : Bool) (o : SV) (vs : List SV) (fm : Fm) : fIdx T o vs fm = (match vs with
  | [w] => match peek o fm, peek w fm with
    | some d, some (.int k) => match d, T with
      | .tuple ds, true => (match intsD ds with
        | some ns => if k ∈ ns then some (.dat (.int (ns.idxOf k : Nat)), fm) else none
        | none => none)
      | .list ds, false => (match intsD ds with
        | some ns => if k ∈ ns then some (.dat (.int (ns.idxOf k : Nat)), fm) else none
        | none => none)
      | _, _ => none
    | _, _ => none
  | _ => none) := rfl
theorem fRepr_ap (vs : List SV) (fm : Fm) : fRepr  vs fm = (match vs with
  | [v] => match peek v fm with
    | some d => if okRepr d then some (.dat (.str d.shown), fm) else none
    | none => none
  | _ => none) := rfl
theorem mPermA_ap (pm : List Nat) (n : Nat) (m : MA) (fm : Fm) : mPermA pm n m fm = (match m fm with
  | some (vs, fm1) => if vs.length = n ∧ okPm pm n = true then some (permL pm vs, fm1) else none
  | none => none) := rfl
theorem fBack_ap (v : SV) (fm : Fm) : fBack  v fm = (match peek v fm with
  | some (.list ds) => some (.fre (.lst ds.reverse), fm)
  | some (.tuple ds) => some (.dat (.tuple ds.reverse), fm)
  | _ => none) := rfl
theorem gSplice_ap (i : Nat) (ml mh : MO) (d : PyData) (fm : Fm) : gSplice i ml mh d fm = (match d with
  | .list es => match fm[i]? with
    | some (some (.own _)) => match ml fm with
      | some (some a, fm1) => match mh fm1 with
        | some (some c, fm2) => match fm2[i]? with
          | some (some (.own (.lst xs))) => if 0 ≤ a ∧ a ≤ c ∧ xs.length + es.length ≤ sizeLine then some (fm2.set i (some (.own (.lst (xs.take a.toNat ++ es ++ xs.drop c.toNat))))) else none
          | _ => none
        | _ => none
      | _ => none
    | _ => none
  | _ => none) := rfl
theorem mSortSet_ap (m : ME) (fm : Fm) : mSortSet m fm = (match m fm with
  | some (v, fm1) => match peek v fm1 with
    | some (.tuple ds) => match intsD ds with
      | some ns => if ns.length < 64 then some (.fre (.lst ((sortU ns).map .int)), fm1) else none
      | none => none
    | some (.list ds) => match intsD ds with
      | some ns => if ns.length < 64 then some (.fre (.lst ((sortU ns).map .int)), fm1) else none
      | none => none
    | _ => none
  | none => none) := rfl
theorem fMulY_ap (va : SV) (vb : SV) (fm : Fm) : fMulY  va vb fm = (match peek va fm, peek vb fm with
  | some (.tuple ds), some (.int k) => if ds ≠ [] ∧ 2 ≤ k ∧ k ≤ 1000 ∧ ds.length ≤ 1000 then some (.dat (.tuple (repD k ds)), fm) else none
  | _, _ => fMulX va vb fm) := rfl
theorem mTupRan_ap (ma : MA) (fm : Fm) : mTupRan ma fm = (match ma fm with
  | some ([.dat (.int a), .dat (.int b)], fm1) => if 0 ≤ a ∧ a ≤ b ∧ b < 100000 then some (.dat (.tuple (intsFrom a (b - a).toNat)), fm1) else none
  | _ => none) := rfl
theorem mFz_ap (m : MA) (fm : Fm) : mFz m fm = (match m fm with
  | some (vs, fm1) => some (vs.map fzV, fm1)
  | none => none) := rfl
theorem mGh_ap (is : List Nat) (m : MS) (fm : Fm) : mGh is m fm = (match m fm with
  | some (.nx, fm1) => some (.nx, frzL is fm1)
  | r => r) := rfl
theorem fIsX_ap (va : SV) (vb : SV) (fm : Fm) : fIsX  va vb fm = (match peek vb fm with
  | some .none => fIsN va vb fm
  | some (.bool _) => fIsB va vb fm
  | _ => none) := rfl
theorem mGhO_ap (is : List Nat) (m : MS) (z0 : Fm) : mGhO is m z0 = (match is with
  | [] => m
  | i :: is => mGh (i :: is) m) z0 := rfl
theorem mLst_ap (m : MA) (fm : Fm) : mLst m fm = mDisp (fun ds => .fre (.lst ds)) m fm := rfl
theorem mTup_ap (m : MA) (fm : Fm) : mTup m fm = mDisp (fun ds => .dat (.tuple ds)) m fm := rfl
theorem mYes_ap (fm : Fm) : mYes fm = some (true, fm) := rfl
theorem mIndex_ap (mo : ME) (ma : MA) (fm : Fm) : mIndex mo ma fm = (match mMt "tuple" (fIdx true) mo ma fm with
  | some r => some r
  | none => mMt "list" (fIdx false) mo ma fm) := rfl
theorem sizeLine_v : sizeLine = 16777216 := rfl
theorem shaped_int (i : Int) : SeqAt.shaped (.int i) = true := by simp [SeqAt.shaped, PyData.canLay0, PyData.depth]
theorem eqv_int (i j : Int) : PyData.eqv (.int i) (.int j) = decide (i = j) := by simp only [PyData.eqv]; rfl
theorem shaped_bool (b : Bool) : SeqAt.shaped (.bool b) = true := by simp [SeqAt.shaped, PyData.canLay0, PyData.depth]
theorem eqv_bool (a b : Bool) : PyData.eqv (.bool a) (.bool b) = decide (a = b) := by cases a <;> cases b <;> simp [PyData.eqv]
theorem shaped_none : SeqAt.shaped .none = true := by simp [SeqAt.shaped, PyData.canLay0, PyData.depth]
theorem shaped_nilT : SeqAt.shaped (.tuple []) = true := by simp [SeqAt.shaped, PyData.canLay0, PyData.canLayAll0, PyData.depth, PyData.depthAll]
theorem shaped_nilL : SeqAt.shaped (.list []) = true := by simp [SeqAt.shaped, PyData.canLay0, PyData.canLayAll0, PyData.depth, PyData.depthAll]
end Rf

namespace Rf
open PySem PySem.Spec PyProof.Rows L2
def Bis_number : Dm := mkD 1 1 [0]
    (mRet (mAndV (mIsi ["int"] (mVar 0)) (mNotV (mIsi ["bool"] (mVar 0)))))
def Bis_pair : Dm := mkD 1 1 [0]
    (mRet (mAndV (mIsi ["tuple"] (mVar 0)) (m2 fEqX (mB1 fLen (mCons (mVar 0) mNil)) (mLit (.int 2)))))
def Bis_interval (Dis_pair : Dm) (Dis_number : Dm) : Dm := mkD 1 3 [0]
    (mSeq (mIf (mNotT (mB (mCall Dis_pair (mFz (mCons (mVar 0) mNil))))) (mRet (mLit (.bool false))) mNext)
    (mSeq (mAsg (gTupD 2 (gsCons (gSet 1) (gsCons (gSet 2) gsNil))) (mVar 0))
    (mRet (mAndV (mCall Dis_number (mFz (mCons (mVar 1) mNil))) (mAndV (mCall Dis_number (mFz (mCons (mVar 2) mNil))) (m2 fLe (mVar 1) (mVar 2)))))))
def Bshortage : Dm := mkD 3 8 [0, 1, 2]
    (mSeq (mAsg (gTupD 2 (gsCons (gSet 4) (gsCons (gSet 5) gsNil))) (mVar 0))
    (mSeq (mGh [3] (mSet 3 (mLc 8 (iSeq (mVar 5)) (gSet 6) (mAndT (mB (m2 fLe (mVar 1) (m2 fIx (mVar 6) (mLit (.int 0))))) (mB (m2 fLe (m2 fIx (mVar 6) (mLit (.int 1))) (mVar 2)))) (mVar 6) [6])))
    (mRet (m2 fSubX (mB1 fLen (mCons (mVar 3) mNil)) (mB1 fLen (mCons (mLc 8 (iSeq (mVar 4)) (gSet 7) (mB (mChain fLe fLe (mVar 1) (mVar 7) (mVar 2))) (mVar 7) [7]) mNil))))))
def Bshows_overfull (Dshortage : Dm) (Dis_interval : Dm) : Dm := mkD 2 2 [0, 1]
    (mRet (mAndV (mCall Dis_interval (mFz (mCons (mVar 1) mNil))) (m2 fGt (mCall Dshortage (mFz (mCons (mVar 0) (mCons (m2 fIx (mVar 1) (mLit (.int 0))) (mCons (m2 fIx (mVar 1) (mLit (.int 1))) mNil))))) (mLit (.int 0)))))
def B_box : Dm := mkD 2 3 [0, 1]
    (mSeq (mSet 2 (mLit (.int 0)))
    (mSeq (mIf (mB (m2 fLt (mVar 1) (mB1 fLen (mCons (mVar 0) mNil)))) (mSet 2 (m2 fIx (mVar 0) (mVar 1))) mNext)
    (mRet (mLst (mCons (m2 fMulY (mB1 fAbs (mCons (mVar 2) mNil)) (mB1 fInt (mCons (m2 fGe (mB1 fAbs (mCons (mVar 2) mNil)) (m2 fPow (mLit (.int 10)) (mLit (.int 18)))) mNil))) (mCons (m2 fMod (m2 fMulY (m2 fAddX (m2 fAddX (m2 fMod (mVar 2) (mLit (.int 2147483629))) (m2 fMulY (mLit (.int 15511)) (mVar 1))) (mLit (.int 23))) (mLit (.int 40361))) (mLit (.int 2147483563))) (mCons (mLit (.int 0)) mNil)))))))
def B_take (D_take : Dm) : Dm := mkD 2 4 [0, 1]
    (mSeq (mIf (mB (m2 fGt (m2 fIx (mVar 0) (mLit (.int 0))) (mLit (.int 0)))) (mSeq (mSet 3 (m2 fMod (m2 fIx (mVar 0) (mLit (.int 0))) (mVar 1)))
    (mSeq (mAsg (gIx 0 (mLit (.int 0))) (m2 fDiv (m2 fIx (mVar 0) (mLit (.int 0))) (mVar 1)))
    (mRet (mVar 3)))) mNext)
    (mSeq (mIf (mB (m2 fGt (mVar 1) (m2 fPow (mLit (.int 10)) (mLit (.int 7))))) (mRet (m2 fMod (m2 fAddX (mCall D_take (mFz (mCons (mVar 0) (mCons (m2 fPow (mLit (.int 10)) (mLit (.int 7))) mNil)))) (m2 fMulY (m2 fPow (mLit (.int 10)) (mLit (.int 7))) (mCall D_take (mFz (mCons (mVar 0) (mCons (m2 fAddX (m2 fDiv (mVar 1) (m2 fPow (mLit (.int 10)) (mLit (.int 7)))) (mLit (.int 1))) mNil)))))) (mVar 1))) mNext)
    (mSeq (mAsg (gIx 0 (mLit (.int 2))) (m2 fAddX (m2 fIx (mVar 0) (mLit (.int 2))) (mLit (.int 1))))
    (mSeq (mGh [2] (mSet 2 (m2 fMod (m2 fPow (m2 fAddX (m2 fIx (mVar 0) (mLit (.int 1))) (m2 fMulY (mLit (.int 51749)) (m2 fIx (mVar 0) (mLit (.int 2))))) (mLit (.int 3))) (mLit (.int 2147483587)))))
    (mRet (m2 fMod (m2 fDiv (m2 fMod (m2 fAddX (m2 fMulY (mVar 2) (m2 fAddX (m2 fMod (mVar 2) (mLit (.int 30013))) (mLit (.int 11)))) (m2 fMulY (m2 fIx (mVar 0) (mLit (.int 2))) (mLit (.int 6427)))) (mLit (.int 2147483647))) (mLit (.int 32))) (mVar 1)))))))
def B_pick (D_take : Dm) : Dm := mkD 2 2 [0, 1]
    (mRet (m2 fIx (mVar 1) (mCall D_take (mFz (mCons (mVar 0) (mCons (mB1 fLen (mCons (mVar 1) mNil)) mNil))))))
def B_same (D_same : Dm) : Dm := mkD 2 4 [0, 1]
    (mSeq (mIf (mB (mIsi ["list", "tuple"] (mVar 1))) (mSeq (mIf (mOrT (mB (m2 fNeX (mIsi ["list"] (mVar 0)) (mIsi ["list"] (mVar 1)))) (mB (m2 fNeX (mIsi ["tuple"] (mVar 0)) (mIsi ["tuple"] (mVar 1))))) (mRet (mLit (.bool false))) mNext)
    (mRet (mAndV (m2 fEqX (mB1 fLen (mCons (mVar 0) mNil)) (mB1 fLen (mCons (mVar 1) mNil))) (mB1 fAll (mCons (mLc 4 (iZp (mCons (mVar 0) (mCons (mVar 1) mNil))) (gTupD 2 (gsCons (gSet 2) (gsCons (gSet 3) gsNil))) mYes (mCall D_same (mFz (mCons (mVar 2) (mCons (mVar 3) mNil)))) [2, 3]) mNil))))) mNext)
    (mSeq (mIf (mOrT (mB (m2 fIsX (mVar 1) (mLit .none))) (mB (mIsi ["str"] (mVar 1)))) (mRet (mAndV (m2 fEqX (mVar 0) (mVar 1)) (m2 fEqX (mIsi ["str"] (mVar 0)) (mIsi ["str"] (mVar 1))))) mNext)
    (mRet (mAndV (mIsi ["int"] (mVar 0)) (mAndV (m2 fEqX (mIsi ["bool"] (mVar 0)) (mIsi ["bool"] (mVar 1))) (m2 fEqX (mVar 0) (mVar 1)))))))
def B_lists (D_lists : Dm) : Dm := mkD 1 2 [0]
    (mRet (mIfE (mB (mIsi ["list", "tuple"] (mVar 0))) (mLc 2 (iSeq (mVar 0)) (gSet 1) mYes (mCall D_lists (mFz (mCons (mVar 1) mNil))) [1]) (mVar 0)))
def B_shuffled (D_take : Dm) : Dm := mkD 2 4 [0, 1]
    (mSeq (mPar [2, 3] (mCons (mB1 fList (mCons (mVar 1) mNil)) (mCons (mLst mNil) mNil)))
    (mSeq (mWhile 100000 (mB (m2 fNeX (mVar 2) (mLst mNil))) (mExpr (mMtZ "list" fAppend (mVar 3) (mCons (mMt "list" fPopAt (mVar 2) (mCons (mCall D_take (mFz (mCons (mVar 0) (mCons (mB1 fLen (mCons (mVar 2) mNil)) mNil)))) mNil)) mNil))))
    (mRet (mVar 3))))
def B_gauges (D_pick : Dm) (D_take : Dm) : Dm := mkD 2 6 [0, 1]
    (mSeq (mGh [3, 4] (mPar [3, 4, 5] (mCons (mCall D_pick (mFz (mCons (mVar 0) (mCons (mLst (mCons (mLit (.int 1)) (mCons (mLit (.int 1)) (mCons (mLit (.int 3)) (mCons (m2 fPow (mLit (.int 10)) (mLit (.int 7))) mNil))))) mNil)))) (mCons (mCall D_take (mFz (mCons (mVar 0) (mCons (mLit (.int 3)) mNil)))) (mCons (mLst mNil) mNil)))))
    (mSeq (mFor (iRan (mCons (mVar 1) mNil)) (gSet 2) (mSeq (mGh [4] (mSet 4 (m2 fAddX (m2 fAddX (mVar 4) (mLit (.int 1))) (mCall D_take (mFz (mCons (mVar 0) (mCons (mVar 3) mNil)))))))
    (mExpr (mMtZ "list" fAppend (mVar 5) (mCons (mVar 4) mNil)))))
    (mRet (mB1 fTuple (mCons (mVar 5) mNil)))))
def B_span (D_take : Dm) : Dm := mkD 3 9 [0, 1, 2]
    (mSeq (mGh [3, 4] (mPar [3, 4] (mCons (mIndex (mVar 1) (mCons (mVar 2) mNil)) (mCons (mCall D_take (mFz (mCons (mVar 0) (mCons (mLit (.int 5)) mNil)))) mNil))))
    (mSeq (mGh [5, 6] (mPar [5, 6] (mCons (m2 fSubX (mVar 3) (mB1 fMin2 (mCons (mVar 3) (mCons (mVar 4) mNil)))) (mCons (mB1 fMin2 (mCons (m2 fSubX (mB1 fLen (mCons (mVar 1) mNil)) (mLit (.int 1))) (mCons (m2 fAddX (mVar 3) (mCall D_take (mFz (mCons (mVar 0) (mCons (m2 fAddX (mVar 4) (mLit (.int 1))) mNil))))) mNil))) mNil))))
    (mSeq (mPar [7, 8] (mCons (m2 fIx (mVar 1) (m2 fAddX (mCall D_take (mFz (mCons (mVar 0) (mCons (m2 fAddX (m2 fSubX (mVar 3) (mVar 5)) (mLit (.int 1))) mNil)))) (mVar 5))) (mCons (m2 fIx (mVar 1) (mVar 6)) mNil)))
    (mRet (mTup (mCons (m2 fSubX (mVar 7) (mB1 fMin2 (mCons (m2 fSubX (mVar 7) (mLit (.int 1))) (mCons (mCall D_take (mFz (mCons (mVar 0) (mCons (mLit (.int 2)) mNil)))) mNil)))) (mCons (m2 fAddX (mVar 8) (mCall D_take (mFz (mCons (mVar 0) (mCons (mLit (.int 2)) mNil))))) mNil)))))))
def B_plant (D_take : Dm) (D_gauges : Dm) (D_shuffled : Dm) (D_span : Dm) : Dm := mkD 3 7 [0, 1, 2]
    (mSeq (mGh [3] (mSet 3 (m2 fAddX (mLit (.int 1)) (mCall D_take (mFz (mCons (mVar 0) (mCons (mVar 1) mNil)))))))
    (mSeq (mGh [4] (mSet 4 (mCall D_gauges (mFz (mCons (mVar 0) (mCons (mB1 fMin2 (mCons (mVar 2) (mCons (m2 fAddX (mVar 3) (mCall D_take (mFz (mCons (mVar 0) (mCons (m2 fAddX (m2 fSubX (mVar 2) (mVar 3)) (mLit (.int 1))) mNil))))) mNil))) mNil))))))
    (mSeq (mGh [5] (mSet 5 (mB1 fTuple (mCons (mSl (mCall D_shuffled (mFz (mCons (mVar 0) (mCons (mVar 4) mNil)))) oNone (oSome (mVar 3))) mNil))))
    (mRet (mTup (mCons (mTup (mCons (mVar 4) (mCons (mB1 fTuple (mCons (mLc 7 (iSeq (mVar 5)) (gSet 6) mYes (mCall D_span (mFz (mCons (mVar 0) (mCons (mVar 4) (mCons (mVar 6) mNil))))) [6]) mNil)) mNil))) (mCons (mVar 5) mNil)))))))
def B_odd (D_pick : Dm) : Dm := mkD 2 3 [0, 1]
    (mSeq (mGh [2] (mSet 2 (mLst (mCons (mLit .none) (mCons (mLit (.bool true)) (mCons (mLit (.bool false)) (mCons (mLit (.int 0)) (mCons (mLit (.int 1)) (mCons (m1 fNeg (mLit (.int 1))) (mCons (mLit (.str "")) (mCons (mLit (.str "swap")) (mCons (mLit (.str "take")) (mCons (mTup mNil) (mCons (mLst mNil) (mCons (mTup (mCons (mLit (.int 0)) mNil)) (mCons (mLst (mCons (mLit (.int 1)) mNil)) (mCons (mTup (mCons (mTup mNil) mNil)) (mCons (mTup (mCons (mLit (.int 0)) (mCons (mLit (.int 1)) mNil))) mNil))))))))))))))))))
    (mSeq (mGh [2] (mSet 2 (m2 fAddX (mVar 2) (mLst (mCons (mTup (mCons (mLit (.int 1)) (mCons (mLit (.int 1)) mNil))) (mCons (mTup (mCons (mLit (.str "swap")) (mCons (mLit (.int 0)) (mCons (mLit (.int 1)) mNil)))) mNil))))))
    (mSeq (mIf (mB (mIsi ["int"] (mVar 1))) (mGh [2] (mSet 2 (m2 fAddX (mVar 2) (m2 fMulY (mLst (mCons (m2 fAddX (mVar 1) (mLit (.int 1))) (mCons (m2 fSubX (mVar 1) (mLit (.int 1))) (mCons (m2 fSubX (mLit (.int 0)) (mVar 1)) (mCons (mB1 fStr (mCons (mVar 1) mNil)) (mCons (m2 fEqX (mVar 1) (mLit (.int 1))) mNil)))))) (mLit (.int 2)))))) mNext)
    (mSeq (mIf (mB (mIsi ["list", "tuple"] (mVar 1))) (mGh [2] (mSet 2 (m2 fAddX (mVar 2) (m2 fMulY (mLst (mCons (mB1 fList (mCons (mVar 1) mNil)) (mCons (mB1 fTuple (mCons (mVar 1) mNil)) (mCons (m1 fBack (mVar 1)) (mCons (mSl (mVar 1) (oSome (mLit (.int 1))) oNone) (mCons (mSl (mVar 1) oNone (oSome (m1 fNeg (mLit (.int 1))))) mNil)))))) (mLit (.int 2)))))) mNext)
    (mRet (mCall D_pick (mFz (mCons (mVar 0) (mCons (mVar 2) mNil)))))))))
def B_bent (D_take : Dm) (D_odd : Dm) (D_bent : Dm) : Dm := mkD 2 5 [0, 1]
    (mSeq (mIf (mOrT (mNotT (mB (mIsi ["list", "tuple"] (mVar 1)))) (mOrT (mB (m2 fEqX (mB1 fLen (mCons (mVar 1) mNil)) (mLit (.int 0)))) (mB (m2 fEqX (mCall D_take (mFz (mCons (mVar 0) (mCons (mLit (.int 6)) mNil)))) (mLit (.int 0)))))) (mRet (mCall D_odd (mFz (mCons (mVar 0) (mCons (mVar 1) mNil))))) mNext)
    (mSeq (mGh [2, 4] (mPar [2, 3, 4] (mCons (mCall D_take (mFz (mCons (mVar 0) (mCons (mB1 fLen (mCons (mVar 1) mNil)) mNil)))) (mCons (mB1 fList (mCons (mVar 1) mNil)) (mCons (mCall D_take (mFz (mCons (mVar 0) (mCons (mLit (.int 8)) mNil)))) mNil)))))
    (mSeq (mIf (mB (m2 fEqX (mVar 4) (mLit (.int 0)))) (mExpr (mMt "list" fPopAt (mVar 3) (mCons (mVar 2) mNil))) (mIf (mB (m2 fEqX (mVar 4) (mLit (.int 1)))) (mExpr (mMtZ "list" fInsert (mVar 3) (mCons (mVar 2) (mCons (m2 fIx (mVar 3) (mVar 2)) mNil)))) (mIf (mB (m2 fEqX (mVar 4) (mLit (.int 2)))) (mAsg (gSplice 3 (oSome (mVar 2)) (oSome (m2 fAddX (mVar 2) (mLit (.int 2))))) (m1 fBack (mSl (mVar 3) (oSome (mVar 2)) (oSome (m2 fAddX (mVar 2) (mLit (.int 2))))))) (mAsg (gIx 3 (mVar 2)) (mCall D_bent (mFz (mCons (mVar 0) (mCons (m2 fIx (mVar 3) (mVar 2)) mNil))))))))
    (mRet (mIfE (mB (mIsi ["list"] (mVar 1))) (mVar 3) (mB1 fTuple (mCons (mVar 3) mNil)))))))
def B_integer : Dm := mkD 1 1 [0]
    (mRet (mAndV (mIsi ["int"] (mVar 0)) (mNotV (mIsi ["bool"] (mVar 0)))))
def B_tightV2 (D_take : Dm) (D_pick : Dm) : Dm := mkD 2 6 [0, 1]
    (mSeq (mSet 2 (mB1 fList (mCons (m2 fIx (mVar 1) (mLit (.int 1))) mNil)))
    (mSeq (mFor (iRan (mCons (mCall D_take (mFz (mCons (mVar 0) (mCons (mLit (.int 6)) mNil)))) mNil)) (gSet 3) (mSeq (mGh [4, 5] (mPar [4, 5] (mCons (mCall D_take (mFz (mCons (mVar 0) (mCons (mB1 fLen (mCons (mVar 2) mNil)) mNil)))) (mCons (mCall D_pick (mFz (mCons (mVar 0) (mCons (m2 fIx (mVar 1) (mLit (.int 0))) mNil)))) mNil))))
    (mAsg (gIx 2 (mVar 4)) (mCall D_pick (mFz (mCons (mVar 0) (mCons (mLst (mCons (m2 fIx (mVar 2) (mLit (.int 0))) (mCons (mTup (mCons (mVar 5) (mCons (mVar 5) mNil))) (mCons (mTup (mCons (mVar 5) (mCons (m2 fAddX (mVar 5) (mLit (.int 1))) mNil))) (mCons (m2 fIx (mVar 2) (m1 fNeg (mLit (.int 1)))) mNil))))) mNil)))))))
    (mRet (mTup (mCons (m2 fIx (mVar 1) (mLit (.int 0))) (mCons (mB1 fTuple (mCons (mVar 2) mNil)) mNil))))))
def B_is_overfull (D_integer : Dm) : Dm := mkD 2 6 [0, 1]
    (mSeq (mIf (mOrT (mNotT (mB (mIsi ["tuple"] (mVar 1)))) (mOrT (mB (m2 fNeX (mB1 fLen (mCons (mVar 1) mNil)) (mLit (.int 2)))) (mNotT (mB (mB1 fAll (mCons (mLc 6 (iSeq (mVar 1)) (gSet 5) mYes (mCall D_integer (mFz (mCons (mVar 5) mNil))) [5]) mNil)))))) (mRet (mLit (.bool false))) mNext)
    (mSeq (mGh [2] (mSet 2 (mLc 6 (iSeq (m2 fIx (mVar 0) (mLit (.int 1)))) (gSet 3) (mAndT (mB (m2 fLe (m2 fIx (mVar 1) (mLit (.int 0))) (m2 fIx (mVar 3) (mLit (.int 0))))) (mB (m2 fLe (m2 fIx (mVar 3) (mLit (.int 1))) (m2 fIx (mVar 1) (mLit (.int 1)))))) (mVar 3) [3])))
    (mRet (m2 fGt (mB1 fLen (mCons (mVar 2) mNil)) (mB1 fLen (mCons (mLc 6 (iSeq (m2 fIx (mVar 0) (mLit (.int 0)))) (gSet 4) (mB (mChain fLe fLe (m2 fIx (mVar 1) (mLit (.int 0))) (mVar 4) (m2 fIx (mVar 1) (mLit (.int 1))))) (mVar 4) [4]) mNil))))))
def B_rightV6 (D_tight : Dm) (D_plant : Dm) (D_bent : Dm) (D_pick : Dm) (D_is_overfull : Dm) (Dshows_overfull : Dm) (D_lists : Dm) (D_same : Dm) : Dm := mkD 1 12 [0]
    (mSeq (mGh [1] (mSet 1 (mCall D_tight (mFz (mCons (mVar 0) (mCons (m2 fIx (mCall D_plant (mFz (mCons (mVar 0) (mCons (mLit (.int 8)) (mCons (mLit (.int 10)) mNil))))) (mLit (.int 0))) mNil))))))
    (mSeq (mGh [2] (mSet 2 (mSortSet (m2 fAddX (m2 fAddX (mLst (mCons (mLit (.int 0)) (mCons (m2 fAddX (m2 fPow (mLit (.int 10)) (mLit (.int 9))) (mLit (.int 5))) mNil))) (mLc 12 (iSeq (m2 fIx (mVar 1) (mLit (.int 1)))) (gSet 11) mYes (m2 fIx (mVar 11) (mLit (.int 0))) [11])) (mLc 12 (iSeq (m2 fIx (mVar 1) (mLit (.int 1)))) (gSet 11) mYes (m2 fIx (mVar 11) (mLit (.int 1))) [11])))))
    (mSeq (mSet 3 (mLst mNil))
    (mSeq (mFor (iSeq (mVar 2)) (gSet 4) (mExpr (mMt "list" fExtend (mVar 3) (mCons (mLc 12 (iSeq (mVar 2)) (gSet 10) mYes (mTup (mCons (mVar 4) (mCons (mVar 10) mNil))) [10]) mNil))))
    (mSeq (mSet 3 (m2 fAddX (mVar 3) (mLst (mCons (mLit .none) (mCons (mTup mNil) (mCons (mLst mNil) (mCons (mLit (.int 0)) (mCons (mLit (.str "overfull")) (mCons (mTup (mCons (mLit (.int 1)) mNil)) (mCons (mTup (mCons (mLit (.int 1)) (mCons (mLit (.int 1)) (mCons (mLit (.int 1)) mNil)))) (mCons (mLst (mCons (mLit (.int 1)) (mCons (m2 fPow (mLit (.int 10)) (mLit (.int 9))) mNil))) (mCons (mTup (mCons (mLit (.bool true)) (mCons (m2 fPow (mLit (.int 10)) (mLit (.int 9))) mNil))) (mCons (mTup (mCons (mLit (.int 0)) (mCons (mLit .none) mNil))) mNil)))))))))))))
    (mSeq (mSet 3 (m2 fAddX (mVar 3) (mLst (mCons (mTup (mCons (m1 fNeg (m2 fPow (mLit (.int 10)) (mLit (.int 20)))) (mCons (m2 fPow (mLit (.int 10)) (mLit (.int 20))) mNil))) (mCons (mTup (mCons (m2 fIx (mVar 2) (m1 fNeg (mLit (.int 1)))) (mCons (mLit (.int 0)) mNil))) (mCons (mTup (mCons (mLit (.str "1")) (mCons (mLit (.str "9")) mNil))) (mCons (mTup (mCons (mLit (.int 1)) (mCons (mLit (.bool true)) mNil))) mNil)))))))
    (mSeq (mFor (iRan (mCons (mLit (.int 12)) mNil)) (gSet 5) (mExpr (mMtZ "list" fAppend (mVar 3) (mCons (mCall D_bent (mFz (mCons (mVar 0) (mCons (mCall D_pick (mFz (mCons (mVar 0) (mCons (mVar 3) mNil)))) mNil)))) mNil))))
    (mSeq (mFor (iSeq (mVar 3)) (gSet 6) (mSeq (mGh [8, 9] (mPar [8, 9] (mCons (mCall D_is_overfull (mFz (mCons (mVar 1) (mCons (mVar 6) mNil)))) (mCons (mB1 fRepr (mCons (mVar 6) mNil)) mNil))))
    (mSeq (mGh [7] (mSet 7 (mLst (mCons (mCall Dshows_overfull (mFz (mCons (mVar 1) (mCons (mVar 6) mNil)))) (mCons (mCall Dshows_overfull (mFz (mPermA [1, 0] 2 (mCons (mVar 6) (mCons (mCall D_lists (mFz (mCons (mVar 1) mNil))) mNil))))) mNil)))))
    (mIf (mOrT (mNotT (mB (mCall D_same (mFz (mCons (mVar 7) (mCons (mLst (mCons (mVar 8) (mCons (mVar 8) mNil))) mNil)))))) (mB (m2 fNeX (mB1 fRepr (mCons (mVar 6) mNil)) (mVar 9)))) (mRet (mLit (.bool false))) mNext))))
    (mRet (mLit (.bool true)))))))))))
def Blaw (D_box : Dm) (D_right : Dm) : Dm := mkD 1 4 [0]
    (mSeq (mFor (iRan (mCons (m2 fAddX (mLit (.int 1)) (mB1 fMin2 (mCons (mLit (.int 3)) (mCons (mB1 fLen (mCons (mVar 0) mNil)) mNil)))) mNil)) (gSet 1) (mSeq (mSet 2 (mCall D_box (mFz (mCons (mVar 0) (mCons (mVar 1) mNil)))))
    (mIf (mNotT (mB (mB1 fAll (mCons (mLc 4 (iRan (mCons (mLit (.int 1)) mNil)) (gSet 3) mYes (mCall D_right (mFz (mCons (mVar 2) mNil))) [3]) mNil)))) (mRet (mLit (.bool false))) mNext)))
    (mRet (mLit (.bool true))))

end Rf
namespace Lk06
open PySem PySem.Spec PyProof.Rows L2 Rf
def topS (i : Nat) : Stmt := PySem.Challenge.pw_spindlefit_k06_overfull_intervals_shown.main.body.getD i (.Pass ⟨0, 0, 0, 0⟩)
def dis_number : DR := ⟨"is_number", ["thing"], [], [0], [], [], topS 1⟩
def dis_pair : DR := ⟨"is_pair", ["thing"], [], [0], [], [], topS 2⟩
def dis_interval : DR := ⟨"is_interval", ["thing"], ["low", "high"], [0], [], [], topS 4⟩
def dshortage : DR := ⟨"shortage", ["shop", "low", "high"], ["machines", "sizes", "ranges", "pair", "size"], [0, 1, 2], [], [], topS 5⟩
def dshows_overfull : DR := ⟨"shows_overfull", ["shop", "thing"], [], [0, 1], [["thing", "shop"]], [], topS 6⟩
def d_box : DR := ⟨"_law_box", ["_law_script", "_law_k"], ["_law_cell"], [0, 1], [], [], topS 8⟩
def d_take : DR := ⟨"_law_take", ["_law_box_here", "_law_span_here"], ["_law_once", "_law_found"], [0, 1], [], ["_law_box_here", "_law_found"], topS 9⟩
def d_pick : DR := ⟨"_law_pick", ["_law_box_here", "_law_some"], [], [0, 1], [], ["_law_box_here"], topS 10⟩
def d_same : DR := ⟨"_law_same", ["_law_found", "_law_due"], ["_law_mine", "_law_its"], [0, 1], [], [], topS 11⟩
def d_lists : DR := ⟨"_law_lists", ["_law_matter"], ["_law_part"], [0], [], [], topS 12⟩
def d_shuffled : DR := ⟨"_law_shuffled", ["_law_box_here", "_law_some"], ["_law_left", "_law_found"], [0, 1], [], ["_law_box_here", "_law_left", "_law_found"], topS 13⟩
def d_gauges : DR := ⟨"_law_gauges", ["_law_box_here", "_law_total"], ["_law_k", "_law_gap", "_law_top", "_law_found"], [0, 1], [], ["_law_box_here", "_law_found"], topS 14⟩
def d_span : DR := ⟨"_law_span", ["_law_box_here", "_law_gauges_here", "_law_held"], ["_law_at", "_law_slack", "_law_first", "_law_last", "_law_bottom", "_law_top"], [0, 1, 2], [], ["_law_box_here"], topS 15⟩
def d_plant : DR := ⟨"_law_plant", ["_law_box_here", "_law_mills", "_law_most"], ["_law_count", "_law_gauges_here", "_law_stand", "_law_held"], [0, 1, 2], [], ["_law_box_here"], topS 16⟩
def d_odd : DR := ⟨"_law_odd", ["_law_box_here", "_law_matter"], ["_law_some"], [0, 1], [], ["_law_box_here"], topS 17⟩
def d_bent : DR := ⟨"_law_bent", ["_law_box_here", "_law_matter"], ["_law_at", "_law_made", "_law_sort"], [0, 1], [], ["_law_box_here", "_law_made"], topS 18⟩
def d_integer : DR := ⟨"_law_integer", ["_law_matter"], [], [0], [], [], topS 19⟩
def d_tight : DR := ⟨"_law_tight", ["_law_box_here", "_law_plant_here"], ["_law_spans", "_law_turn", "_law_mill", "_law_gauge"], [0, 1], [], ["_law_box_here", "_law_spans"], topS 20⟩
def d_is_overfull : DR := ⟨"_law_is_overfull", ["_law_plant_here", "_law_matter"], ["_law_inside", "_law_span_here", "_law_gauge", "_law_part"], [0, 1], [], [], topS 21⟩
def d_right : DR := ⟨"_law_right", ["_law_box_here"], ["_law_plant_here", "_law_ends", "_law_matters", "_law_bottom", "_law_turn", "_law_matter", "_law_told", "_law_due", "_law_kept", "_law_top", "_law_span_here"], [0], [], ["_law_box_here", "_law_matters"], topS 22⟩
def dlaw : DR := ⟨"law", ["_law_script"], ["_law_k", "_law_box_here", "_law_turn"], [0], [], ["_law_box_here"], topS 23⟩
def defs : List DR := [dis_number, dis_pair, dis_interval, dshortage, dshows_overfull, d_box, d_take, d_pick, d_same, d_lists, d_shuffled, d_gauges, d_span, d_plant, d_odd, d_bent, d_integer, d_tight, d_is_overfull, d_right, dlaw]
def blts : List Str := ["abs", "all", "bool", "int", "isinstance", "len", "list", "min", "range", "repr", "set", "sorted", "str", "tuple", "zip"]
def bl (x : Str) : Bool := blts.contains x
abbrev En (n : Nat) : Str → Option DI := envD 40 defs bl n
def Dis_number (n : Nat) : Dm := dm 40 dis_number (En n) bl
def Dis_pair (n : Nat) : Dm := dm 40 dis_pair (En n) bl
def Dis_interval (n : Nat) : Dm := dm 40 dis_interval (En n) bl
def Dshortage (n : Nat) : Dm := dm 40 dshortage (En n) bl
def Dshows_overfull (n : Nat) : Dm := dm 40 dshows_overfull (En n) bl
def D_box (n : Nat) : Dm := dm 40 d_box (En n) bl
def D_take (n : Nat) : Dm := dm 40 d_take (En n) bl
def D_pick (n : Nat) : Dm := dm 40 d_pick (En n) bl
def D_same (n : Nat) : Dm := dm 40 d_same (En n) bl
def D_lists (n : Nat) : Dm := dm 40 d_lists (En n) bl
def D_shuffled (n : Nat) : Dm := dm 40 d_shuffled (En n) bl
def D_gauges (n : Nat) : Dm := dm 40 d_gauges (En n) bl
def D_span (n : Nat) : Dm := dm 40 d_span (En n) bl
def D_plant (n : Nat) : Dm := dm 40 d_plant (En n) bl
def D_odd (n : Nat) : Dm := dm 40 d_odd (En n) bl
def D_bent (n : Nat) : Dm := dm 40 d_bent (En n) bl
def D_integer (n : Nat) : Dm := dm 40 d_integer (En n) bl
def D_tight (n : Nat) : Dm := dm 40 d_tight (En n) bl
def D_is_overfull (n : Nat) : Dm := dm 40 d_is_overfull (En n) bl
def D_right (n : Nat) : Dm := dm 40 d_right (En n) bl
def Dlaw (n : Nat) : Dm := dm 40 dlaw (En n) bl
theorem eis_number (n : Nat) : Dis_number (n + 1) = Bis_number := by kernel_rfl
theorem eis_pair (n : Nat) : Dis_pair (n + 1) = Bis_pair := by kernel_rfl
theorem eis_interval (n : Nat) : Dis_interval (n + 1) = Bis_interval (Dis_pair n) (Dis_number n) := by kernel_rfl
theorem eshortage (n : Nat) : Dshortage (n + 1) = Bshortage := by kernel_rfl
theorem eshows_overfull (n : Nat) : Dshows_overfull (n + 1) = Bshows_overfull (Dshortage n) (Dis_interval n) := by kernel_rfl
theorem e_box (n : Nat) : D_box (n + 1) = B_box := by kernel_rfl
theorem e_take (n : Nat) : D_take (n + 1) = B_take (D_take n) := by kernel_rfl
theorem e_pick (n : Nat) : D_pick (n + 1) = B_pick (D_take n) := by kernel_rfl
theorem e_same (n : Nat) : D_same (n + 1) = B_same (D_same n) := by kernel_rfl
theorem e_lists (n : Nat) : D_lists (n + 1) = B_lists (D_lists n) := by kernel_rfl
theorem e_shuffled (n : Nat) : D_shuffled (n + 1) = B_shuffled (D_take n) := by kernel_rfl
theorem e_gauges (n : Nat) : D_gauges (n + 1) = B_gauges (D_pick n) (D_take n) := by kernel_rfl
theorem e_span (n : Nat) : D_span (n + 1) = B_span (D_take n) := by kernel_rfl
theorem e_plant (n : Nat) : D_plant (n + 1) = B_plant (D_take n) (D_gauges n) (D_shuffled n) (D_span n) := by kernel_rfl
theorem e_odd (n : Nat) : D_odd (n + 1) = B_odd (D_pick n) := by kernel_rfl
theorem e_bent (n : Nat) : D_bent (n + 1) = B_bent (D_take n) (D_odd n) (D_bent n) := by kernel_rfl
theorem e_integer (n : Nat) : D_integer (n + 1) = B_integer := by kernel_rfl
theorem e_tight (n : Nat) : D_tight (n + 1) = B_tightV2 (D_take n) (D_pick n) := by kernel_rfl
theorem e_is_overfull (n : Nat) : D_is_overfull (n + 1) = B_is_overfull (D_integer n) := by kernel_rfl
theorem e_right (n : Nat) : D_right (n + 1) = B_rightV6 (D_tight n) (D_plant n) (D_bent n) (D_pick n) (D_is_overfull n) (Dshows_overfull n) (D_lists n) (D_same n) := by kernel_rfl
theorem elaw (n : Nat) : Dlaw (n + 1) = Blaw (D_box n) (D_right n) := by kernel_rfl
end Lk06

/-! Sp1: steps; the box of draws. -/
namespace Rf
open PySem PySem.Spec PyProof.Rows L2
theorem seqN {m k : MS} {fm fm1 : Fm} {r : Option (Fl × Fm)} (h : m fm = some (.nx, fm1)) (h2 : k fm1 = r) : mSeq m k fm = r := by simp only [mSeq_ap, h, h2]
theorem seqR {m k : MS} {fm fm1 : Fm} {v : SV} (h : m fm = some (.rt v, fm1)) : mSeq m k fm = some (.rt v, fm1) := by simp only [mSeq_ap, h]
theorem ghN {m : MS} {is : List Nat} {fm fm1 : Fm} (h : m fm = some (.nx, fm1)) : mGh is m fm = some (.nx, frzL is fm1) := by simp only [mGh_ap, h]
theorem mkD_rt {n N : Nat} {ro : List Nat} {m : MS} {as outs : List S0} {v r : SV} {fm1 fm2 : Fm} (hn : as.length = n) (hm : m (as.map some ++ List.replicate (N - n) none) = some (.rt v, fm1)) (hr : retv as v fm1 = some (r, fm2)) (ho : outsFrom ro fm2 0 as = some outs) : mkD n N ro m as = some (r, outs) := by
  rw [mkD_ap, if_pos hn, hm]; simp only [hr, ho]
theorem mkD_nx {n N : Nat} {ro : List Nat} {m : MS} {as outs : List S0} {fm1 : Fm} (hn : as.length = n) (hm : m (as.map some ++ List.replicate (N - n) none) = some (.nx, fm1)) (ho : outsFrom ro fm1 0 as = some outs) : mkD n N ro m as = some (.dat .none, outs) := by
  rw [mkD_ap, if_pos hn, hm]; simp only [ho]
theorem forN {mi : MI} {g : MG} {m : MS} {fm fm1 : Fm} {ds : List PyData} {r : Option (Fl × Fm)} (h : mi fm = some (ds, fm1)) (h2 : loopM g m ds fm1 = r) : mFor mi g m fm = r := by simp only [mFor_ap, h, h2]
theorem if_t {c : MT} {m n : MS} {fm fm1 : Fm} (h : c fm = some (true, fm1)) : mIf c m n fm = m fm1 := by simp only [mIf_ap, h]
theorem if_f {c : MT} {m n : MS} {fm fm1 : Fm} (h : c fm = some (false, fm1)) : mIf c m n fm = n fm1 := by simp only [mIf_ap, h]
/-! loops, comprehensions -/
theorem loop_inv {g : MG} {m : MS} (I : Nat → Fm → Prop) (K : Nat) : ∀ (ds : List PyData) (k : Nat) (fm : Fm), (∀ (j : Nat) (d : PyData), ds[j]? = some d → ∀ fm, I (k + j) fm → ∃ fm1 fm2, g d fm = some fm1 ∧ m fm1 = some (.nx, fm2) ∧ I (k + j + 1) fm2) → I k fm → ∃ fm', loopM g m ds fm = some (.nx, fm') ∧ I (k + ds.length) fm'
  | [], k, fm, _, i => ⟨fm, by simp [loopM], by simpa using i⟩
  | d :: ds, k, fm, h, i => by
    obtain ⟨fm1, fm2, h1, h2, h3⟩ := h 0 d rfl fm i
    obtain ⟨fm', e1, e2⟩ := loop_inv (g := g) (m := m) I K ds (k + 1) fm2 (fun j d' hj fm i => by
      have := h (j + 1) d' (by simpa using hj) fm (by rwa [show k + (j + 1) = k + 1 + j by omega])
      rwa [show k + (j + 1) + 1 = k + 1 + j + 1 by omega] at this) h3
    refine ⟨fm', by simp only [loopM, h1, h2, e1], ?_⟩
    rw [show k + (d :: ds).length = k + 1 + ds.length by simp; omega]; exact e2
/-- the items, one by one, each made with a state that is led on -/
theorem comp_inv {g : MG} {me : ME} {vs : List Nat} (I : Nat → Fm → Prop) (P : Nat → PyData → Prop) : ∀ (ds acc : List PyData) (k : Nat) (fm : Fm), (∀ (j : Nat) (d : PyData), ds[j]? = some d → ∀ fm, I (k + j) fm → ∃ fm1 v fm2 r fm3, g d fm = some fm1 ∧ me fm1 = some (v, fm2) ∧ frz v fm2 = some (r, fm3) ∧ P (k + j) r ∧ I (k + j + 1) (wipeF fm3 vs)) → I k fm → acc.length + ds.length ≤ sizeLine →
    ∃ out fm', compM g mYes me vs ds fm acc = some (acc ++ out, fm') ∧ out.length = ds.length ∧ (∀ (j : Nat) (x : PyData), out[j]? = some x → P (k + j) x) ∧ I (k + ds.length) fm'
  | [], acc, k, fm, _, i, _ => ⟨[], fm, by simp [compM], rfl, by simp, by simpa using i⟩
  | d :: ds, acc, k, fm, h, i, hs => by
    obtain ⟨fm1, v, fm2, r, fm3, h1, h2, h3, h4, h5⟩ := h 0 d rfl fm i
    have h6 : acc.length < sizeLine := by simp at hs; omega
    obtain ⟨out, fm', e1, e2, e3, e4⟩ := comp_inv (g := g) (me := me) (vs := vs) I P ds (acc ++ [r]) (k + 1) (wipeF fm3 vs) (fun j d' hj fm i => by
      have := h (j + 1) d' (by simpa using hj) fm (by rwa [show k + (j + 1) = k + 1 + j by omega])
      rwa [show k + (j + 1) = k + 1 + j by omega] at this) h5 (by simp at hs ⊢; omega)
    refine ⟨r :: out, fm', ?_, by simp [e2], fun j x hx => ?_, ?_⟩
    · simp only [compM, h1, mYes, h2, h3, if_pos h6, e1, List.append_assoc, List.cons_append, List.nil_append]
    · cases j with
      | zero => simp at hx; subst hx; exact h4
      | succ j => have := e3 j x (by simpa using hx); rwa [show k + (j + 1) = k + 1 + j by omega]
    · rw [show k + (d :: ds).length = k + 1 + ds.length by simp; omega]; exact e4
/-- a comprehension that only looks: what is kept, and what is made of it -/
theorem comp_look {g : MG} {mt : MT} {me : ME} {vs : List Nat} (fm : Fm) (p : PyData → Bool) (f : PyData → PyData) : ∀ (ds acc : List PyData), (∀ d ∈ ds, ∃ fm1 fm2, g d fm = some fm1 ∧ mt fm1 = some (p d, fm2) ∧ (p d = false → wipeF fm2 vs = fm) ∧ (p d = true → ∃ v fm3 fm4, me fm2 = some (v, fm3) ∧ frz v fm3 = some (f d, fm4) ∧ wipeF fm4 vs = fm)) → acc.length + ds.length ≤ sizeLine →
    compM g mt me vs ds fm acc = some (acc ++ (ds.filter p).map f, fm)
  | [], acc, _, _ => by simp [compM]
  | d :: ds, acc, h, hs => by
    obtain ⟨fm1, fm2, h1, h2, h3, h4⟩ := h d (by simp)
    have h5 : acc.length < sizeLine := by simp at hs; omega
    cases hp : p d with
    | false =>
      have ih := comp_look (g := g) (mt := mt) (me := me) (vs := vs) fm p f ds acc (fun e m => h e (by simp [m])) (by simp at hs ⊢; omega)
      simp only [compM, h1, h2, hp, h3 hp, ih, List.filter_cons, Bool.false_eq_true, ↓reduceIte]
    | true =>
      obtain ⟨v, fm3, fm4, k1, k2, k3⟩ := h4 hp
      have ih := comp_look (g := g) (mt := mt) (me := me) (vs := vs) fm p f ds (acc ++ [f d]) (fun e m => h e (by simp [m])) (by simp at hs ⊢; omega)
      simp only [compM, h1, h2, hp, k1, k2, k3, if_pos h5, ih, List.filter_cons, ↓reduceIte, List.map_cons, List.append_assoc, List.cons_append, List.nil_append]
theorem comp_all {g : MG} {me : ME} {vs : List Nat} (fm : Fm) (f : PyData → PyData) (ds : List PyData) (h : ∀ d ∈ ds, ∃ fm1 v fm3 fm4, g d fm = some fm1 ∧ me fm1 = some (v, fm3) ∧ frz v fm3 = some (f d, fm4) ∧ wipeF fm4 vs = fm) (hs : ds.length ≤ sizeLine) :
    compM g mYes me vs ds fm [] = some (ds.map f, fm) := by
  have := comp_look (g := g) (mt := mYes) (me := me) (vs := vs) fm (fun _ => true) f ds [] (fun d m => by
    obtain ⟨fm1, v, fm3, fm4, h1, h2, h3, h4⟩ := h d m
    exact ⟨fm1, fm1, h1, rfl, (fun z => nomatch z), fun _ => ⟨v, fm3, fm4, h2, h3, h4⟩⟩) (by simpa using hs)
  rwa [List.nil_append, List.filter_eq_self.2 (fun _ _ => rfl)] at this
theorem wback_d1 (d : PyData) (o : List S0) (fm : Fm) : wback [.dat d] o fm = fm := by cases o <;> rfl
theorem wback_d2 (d e : PyData) (o : List S0) (fm : Fm) : wback [.dat d, .dat e] o fm = fm := by
  rcases o with _ | ⟨a, _ | ⟨b, o⟩⟩ <;> rfl
theorem wback_d3 (d e f : PyData) (o : List S0) (fm : Fm) : wback [.dat d, .dat e, .dat f] o fm = fm := by
  rcases o with _ | ⟨a, _ | ⟨b, _ | ⟨c, o⟩⟩⟩ <;> rfl
theorem wback_d4 (d e f g : PyData) (o : List S0) (fm : Fm) : wback [.dat d, .dat e, .dat f, .dat g] o fm = fm := by
  rcases o with _ | ⟨a, _ | ⟨b, _ | ⟨c, _ | ⟨k, o⟩⟩⟩⟩ <;> rfl
/-! what holds behind a statement -/
def Wp (m : MS) (fm : Fm) (Q : Fl → Fm → Prop) : Prop := ∃ fl fm', m fm = some (fl, fm') ∧ Q fl fm'
theorem wp_is {m : MS} {fm fm' : Fm} {fl : Fl} {Q : Fl → Fm → Prop} (h : m fm = some (fl, fm')) (q : Q fl fm') : Wp m fm Q := ⟨fl, fm', h, q⟩
theorem wp_nx {m k : MS} {fm fm1 : Fm} {Q : Fl → Fm → Prop} (h : m fm = some (.nx, fm1)) (hk : Wp k fm1 Q) : Wp (mSeq m k) fm Q := by
  obtain ⟨fl, fm', e, q⟩ := hk
  exact ⟨fl, fm', seqN h e, q⟩
theorem wp_gh {m k : MS} {is : List Nat} {fm fm1 : Fm} {Q : Fl → Fm → Prop} (h : m fm = some (.nx, fm1)) (hk : Wp k (frzL is fm1) Q) : Wp (mSeq (mGh is m) k) fm Q := wp_nx (ghN h) hk
theorem wp_rt {m k : MS} {fm fm1 : Fm} {v : SV} {Q : Fl → Fm → Prop} (h : m fm = some (.rt v, fm1)) (q : Q (.rt v) fm1) : Wp (mSeq m k) fm Q := ⟨_, _, seqR h, q⟩
theorem wp_seq {m k : MS} {fm : Fm} {Q : Fl → Fm → Prop} (h : Wp m fm fun fl fm1 => fl = .nx ∧ Wp k fm1 Q) : Wp (mSeq m k) fm Q := by
  obtain ⟨fl, fm1, e, rfl, h2⟩ := h
  exact wp_nx e h2
theorem wp_imp {m : MS} {fm : Fm} {Q Q' : Fl → Fm → Prop} (h : Wp m fm Q) (k : ∀ fl fm', Q fl fm' → Q' fl fm') : Wp m fm Q' := by
  obtain ⟨fl, fm1, e, q⟩ := h
  exact ⟨fl, fm1, e, k _ _ q⟩
theorem wp_if {c : MT} {m n : MS} {fm fm1 : Fm} {b : Bool} {Q : Fl → Fm → Prop} (h : c fm = some (b, fm1)) (h1 : b = true → Wp m fm1 Q) (h2 : b = false → Wp n fm1 Q) : Wp (mIf c m n) fm Q := by
  cases b with
  | true => obtain ⟨fl, fm2, e, q⟩ := h1 rfl; exact ⟨fl, fm2, by simp only [mIf_ap, h, e], q⟩
  | false => obtain ⟨fl, fm2, e, q⟩ := h2 rfl; exact ⟨fl, fm2, by simp only [mIf_ap, h, e], q⟩
theorem wp_for {mi : MI} {g : MG} {m : MS} {fm fm0 : Fm} {ds : List PyData} {Q : Fl → Fm → Prop} (I : Nat → Fm → Prop) (h : mi fm = some (ds, fm0)) (i0 : I 0 fm0)
    (st : ∀ (j : Nat) (d : PyData), ds[j]? = some d → ∀ fm, I j fm → ∃ fm1, g d fm = some fm1 ∧ Wp m fm1 fun fl fm2 => fl = .nx ∧ I (j + 1) fm2) (fin : ∀ fm', I ds.length fm' → Q .nx fm') : Wp (mFor mi g m) fm Q := by
  obtain ⟨fm', l1, l2⟩ := loop_inv (g := g) (m := m) I 0 ds 0 fm0 (fun j d hj fm i => by
    rw [Nat.zero_add] at i ⊢
    obtain ⟨fm1, e1, fl, fm2, e2, rfl, i2⟩ := st j d hj fm i
    exact ⟨fm1, fm2, e1, e2, i2⟩) i0
  rw [Nat.zero_add] at l2
  exact ⟨.nx, fm', forN h l1, fin fm' l2⟩
theorem wp_while {c : MT} {m : MS} {Q : Fl → Fm → Prop} (I : Nat → Fm → Prop) (st : ∀ k fm, I k fm → (∃ fm1, c fm = some (false, fm1) ∧ Q .nx fm1) ∨ (∃ fm1, c fm = some (true, fm1) ∧ Wp m fm1 fun fl fm2 => fl = .nx ∧ ∃ k', k' < k ∧ I k' fm2)) : ∀ (N k : Nat) (fm : Fm), I k fm → k < N → Wp (mWhile N c m) fm Q
  | 0, k, fm, _, hN => by omega
  | N + 1, k, fm, i, hN => by
    rcases st k fm i with ⟨fm1, e, q⟩ | ⟨fm1, e, fl, fm2, e2, rfl, k', hk, i2⟩
    · exact ⟨.nx, fm1, by simp only [mWhile, whileM, e], q⟩
    · obtain ⟨fl, fm3, e3, q⟩ := wp_while I st N k' fm2 i2 (by omega)
      exact ⟨fl, fm3, by simp only [mWhile, whileM, e, e2]; exact e3, q⟩
/-- a def gives such a value and leaves its arguments so -/
def Ev (D : Dm) (as : List S0) (P : SV → List S0 → Prop) : Prop := ∃ r outs, D as = some (r, outs) ∧ P r outs
theorem mkD_wp {n N : Nat} {ro : List Nat} {m : MS} {as : List S0} {P : SV → List S0 → Prop} (hn : as.length = n) (h : Wp m (as.map some ++ List.replicate (N - n) none) fun fl fm1 => ∃ v r fm2 outs, fl = .rt v ∧ retv as v fm1 = some (r, fm2) ∧ outsFrom ro fm2 0 as = some outs ∧ P r outs) : Ev (mkD n N ro m) as P := by
  obtain ⟨fl, fm1, e, v, r, fm2, outs, rfl, e1, e2, p⟩ := h
  exact ⟨r, outs, mkD_rt hn e e1 e2, p⟩
/-! the box of draws -/
def bxS (a b c : Int) : S0 := .own (.lst [.int a, .int b, .int c])
def Bx (C : Int) (s : S0) : Prop := ∃ a b c, s = bxS a b c ∧ 0 ≤ a ∧ 0 ≤ b ∧ b < 2147483563 ∧ 0 ≤ c ∧ c ≤ C
theorem Bx.mono {C C' : Int} {s : S0} (h : Bx C s) (e : C ≤ C') : Bx C' s := by
  obtain ⟨a, b, c, h1, h2, h3, h4, h5, h6⟩ := h; exact ⟨a, b, c, h1, h2, h3, h4, h5, by omega⟩
theorem Bx.own {C : Int} {s : S0} (h : Bx C s) : ∃ xs, s = .own (.lst xs) := by
  obtain ⟨a, b, c, rfl, _⟩ := h; exact ⟨_, rfl⟩
/-- how much may be drawn at all -/
abbrev BC : Int := 100000000
def SpTake (D : Dm) : Prop := ∀ (C k : Int) (s : S0), Bx C s → C ≤ BC → 0 < k → k ≤ 10000000 → ∃ r s', 0 ≤ r ∧ r < k ∧ Bx (C + 1) s' ∧ D [s, .dat (.int k)] = some (.dat (.int r), [s', .dat (.int k)])
theorem sp_take {T : Dm} : SpTake (B_take T) := by
  intro C k s hs hC hk hk2
  obtain ⟨a, b, c, rfl, h2, h3, h4, h5, h6⟩ := hs
  have hC' : C ≤ 100000000 := hC
  by_cases h : 0 < a
  · refine ⟨a % k, bxS (a / k) b c, Int.emod_nonneg _ (by omega), Int.emod_lt_of_pos _ (by omega), ⟨_, _, _, rfl, Int.ediv_nonneg h2 (by omega), h3, h4, h5, by omega⟩, ?_⟩
    have h7 : k < 1073741824 := by omega
    simp [B_take, mVar_ap, mLit_ap, m2_ap, mB_ap, mAndT_ap, mOrT_ap, mNotT_ap, mAndV_ap, mOrV_ap, mNotV_ap, mIfE_ap, mNil_ap, mCons_ap, mDisp_ap, gSet_ap, gsNil_ap, gsCons_ap, gTupD_ap, mSet_ap, mAsg_ap, mPar_ap, mExpr_ap, mRet_ap, mRetN_ap, mNext_ap, mBreak_ap, mCont_ap, mSeq_ap, mIf_ap, iSeq_ap, iRan_ap, iRan2_ap, iEnm_ap, iZp_ap, mFor_ap, mWhile_ap, mCall_ap, mkD_ap, mLc_ap, fI_ap, fAdd_ap, fSub_ap, fMul_ap, fMod_ap, fDiv_ap, fPow_ap, fLt_ap, fLe_ap, fGt_ap, fGe_ap, fIsN_ap, fNotN_ap, fIsB_ap, fIx_ap, fAddX_ap, fSubX_ap, fMulX_ap, m1_ap, fNeg_ap, mB1_ap, fLen_ap, fAbs_ap, fInt_ap, fMin2_ap, fMax2_ap, fList_ap, fTuple_ap, fStr_ap, mMt_ap, mMtZ_ap, fAppend_ap, fInsert_ap, fExtend_ap, fPopAt_ap, mChain_ap, oNone_ap, oSome_ap, mSl_ap, gIx_ap, fInX_ap, fNotInX_ap, mIsi_ap, fEqX_ap, fNeX_ap, fAll_ap, fAny_ap, fSum_ap, fSorted_ap, fBest_ap, fIdx_ap, fRepr_ap, mPermA_ap, fBack_ap, gSplice_ap, mSortSet_ap, fMulY_ap, mTupRan_ap, mFz_ap, mGh_ap, fIsX_ap, mGhO_ap, ia_none_int, ia_none_bool, ia_none_list, ia_none_tuple, ia_none_str, ia_none_seq, ia_bool_int, ia_bool_bool, ia_bool_list, ia_bool_tuple, ia_bool_str, ia_bool_seq, ia_int_int, ia_int_bool, ia_int_list, ia_int_tuple, ia_int_str, ia_int_seq, ia_str_int, ia_str_bool, ia_str_list, ia_str_tuple, ia_str_str, ia_str_seq, ia_list_int, ia_list_bool, ia_list_list, ia_list_tuple, ia_list_str, ia_list_seq, ia_tuple_int, ia_tuple_bool, ia_tuple_list, ia_tuple_tuple, ia_tuple_str, ia_tuple_seq, mLst_ap, mTup_ap, mYes_ap, sizeLine_v, shaped_int, eqv_int, shaped_bool, eqv_bool, shaped_none, shaped_nilT, shaped_nilL, frz, frzAll, peek, res1, resAll, stoAll, argOf, argsOf, bors, wback, outAt, outsFrom, ownsStay, retv, wipeF, unwipe, sto, isNone, tyD, cY, cMul, cMod, cDiv, cPow, Cell.dat, b2n, frzS, frzL, fzV, atI, ixN, fMulL, bxS, h, hk, h7]
  · obtain rfl : a = 0 := by omega
    have h8 : ¬ (10000000 < k) := by omega
    have hp : (b + 51749 * (c + 1)).natAbs < 18446744073709551616 := by omega
    obtain ⟨X, hX⟩ : ∃ X, X = (b + 51749 * (c + 1)) ^ 3 % 2147483587 := ⟨_, rfl⟩
    have x1 : 0 ≤ X := by rw [hX]; exact Int.emod_nonneg _ (by decide)
    have x2 : X < 2147483587 := by rw [hX]; exact Int.emod_lt_of_pos _ (by decide)
    refine ⟨(X * (X % 30013 + 11) + (c + 1) * 6427) % 2147483647 / 32 % k, bxS 0 b (c + 1), Int.emod_nonneg _ (by omega), Int.emod_lt_of_pos _ (by omega), ⟨_, _, _, rfl, by omega, h3, h4, by omega, by omega⟩, ?_⟩
    have y1 : -18446744073709551616 < X := by omega
    have y2 : X < 18446744073709551616 := by omega
    simp [B_take, mVar_ap, mLit_ap, m2_ap, mB_ap, mAndT_ap, mOrT_ap, mNotT_ap, mAndV_ap, mOrV_ap, mNotV_ap, mIfE_ap, mNil_ap, mCons_ap, mDisp_ap, gSet_ap, gsNil_ap, gsCons_ap, gTupD_ap, mSet_ap, mAsg_ap, mPar_ap, mExpr_ap, mRet_ap, mRetN_ap, mNext_ap, mBreak_ap, mCont_ap, mSeq_ap, mIf_ap, iSeq_ap, iRan_ap, iRan2_ap, iEnm_ap, iZp_ap, mFor_ap, mWhile_ap, mCall_ap, mkD_ap, mLc_ap, fI_ap, fAdd_ap, fSub_ap, fMul_ap, fMod_ap, fDiv_ap, fPow_ap, fLt_ap, fLe_ap, fGt_ap, fGe_ap, fIsN_ap, fNotN_ap, fIsB_ap, fIx_ap, fAddX_ap, fSubX_ap, fMulX_ap, m1_ap, fNeg_ap, mB1_ap, fLen_ap, fAbs_ap, fInt_ap, fMin2_ap, fMax2_ap, fList_ap, fTuple_ap, fStr_ap, mMt_ap, mMtZ_ap, fAppend_ap, fInsert_ap, fExtend_ap, fPopAt_ap, mChain_ap, oNone_ap, oSome_ap, mSl_ap, gIx_ap, fInX_ap, fNotInX_ap, mIsi_ap, fEqX_ap, fNeX_ap, fAll_ap, fAny_ap, fSum_ap, fSorted_ap, fBest_ap, fIdx_ap, fRepr_ap, mPermA_ap, fBack_ap, gSplice_ap, mSortSet_ap, fMulY_ap, mTupRan_ap, mFz_ap, mGh_ap, fIsX_ap, mGhO_ap, ia_none_int, ia_none_bool, ia_none_list, ia_none_tuple, ia_none_str, ia_none_seq, ia_bool_int, ia_bool_bool, ia_bool_list, ia_bool_tuple, ia_bool_str, ia_bool_seq, ia_int_int, ia_int_bool, ia_int_list, ia_int_tuple, ia_int_str, ia_int_seq, ia_str_int, ia_str_bool, ia_str_list, ia_str_tuple, ia_str_str, ia_str_seq, ia_list_int, ia_list_bool, ia_list_list, ia_list_tuple, ia_list_str, ia_list_seq, ia_tuple_int, ia_tuple_bool, ia_tuple_list, ia_tuple_tuple, ia_tuple_str, ia_tuple_seq, mLst_ap, mTup_ap, mYes_ap, sizeLine_v, shaped_int, eqv_int, shaped_bool, eqv_bool, shaped_none, shaped_nilT, shaped_nilL, frz, frzAll, peek, res1, resAll, stoAll, argOf, argsOf, bors, wback, outAt, outsFrom, ownsStay, retv, wipeF, unwipe, sto, isNone, tyD, cY, cMul, cMod, cDiv, cPow, Cell.dat, b2n, frzS, frzL, fzV, atI, ixN, fMulL, bxS, h8, hp, ← hX, y1, y2, hk]
theorem atI_mem {ds : List PyData} {r : Int} (h0 : 0 ≤ r) (h1 : r < ds.length) : ∃ x, x ∈ ds ∧ atI ds r = some x := by
  have : r.toNat < ds.length := by omega
  refine ⟨ds[r.toNat], List.getElem_mem this, ?_⟩
  simp [atI, ixN, h0, h1, this]
def SpPick (D : Dm) : Prop := ∀ (C : Int) (s t : S0) (ds : List PyData), (t = .own (.lst ds) ∨ t = .dat (.list ds) ∨ t = .dat (.tuple ds)) → Bx C s → C ≤ BC → 0 < ds.length → ds.length ≤ 100000 → ∃ x s', x ∈ ds ∧ Bx (C + 1) s' ∧ D [s, t] = some (.dat x, [s', t])
theorem sp_pick {T : Dm} (hT : SpTake T) : SpPick (B_pick T) := by
  intro C s t ds ht hs hC h0 h1
  obtain ⟨r, s', e1, e2, e3, e4⟩ := hT C ds.length s hs hC (by omega) (by omega)
  obtain ⟨x, m, e5⟩ := atI_mem e1 e2
  obtain ⟨xs, rfl⟩ := hs.own
  obtain ⟨ys, rfl⟩ := e3.own
  refine ⟨x, _, m, e3, ?_⟩
  rcases ht with rfl | rfl | rfl
  · simp [B_pick, mVar_ap, mLit_ap, m2_ap, mB_ap, mAndT_ap, mOrT_ap, mNotT_ap, mAndV_ap, mOrV_ap, mNotV_ap, mIfE_ap, mNil_ap, mCons_ap, mDisp_ap, gSet_ap, gsNil_ap, gsCons_ap, gTupD_ap, mSet_ap, mAsg_ap, mPar_ap, mExpr_ap, mRet_ap, mRetN_ap, mNext_ap, mBreak_ap, mCont_ap, mSeq_ap, mIf_ap, iSeq_ap, iRan_ap, iRan2_ap, iEnm_ap, iZp_ap, mFor_ap, mWhile_ap, mCall_ap, mkD_ap, mLc_ap, fI_ap, fAdd_ap, fSub_ap, fMul_ap, fMod_ap, fDiv_ap, fPow_ap, fLt_ap, fLe_ap, fGt_ap, fGe_ap, fIsN_ap, fNotN_ap, fIsB_ap, fIx_ap, fAddX_ap, fSubX_ap, fMulX_ap, m1_ap, fNeg_ap, mB1_ap, fLen_ap, fAbs_ap, fInt_ap, fMin2_ap, fMax2_ap, fList_ap, fTuple_ap, fStr_ap, mMt_ap, mMtZ_ap, fAppend_ap, fInsert_ap, fExtend_ap, fPopAt_ap, mChain_ap, oNone_ap, oSome_ap, mSl_ap, gIx_ap, fInX_ap, fNotInX_ap, mIsi_ap, fEqX_ap, fNeX_ap, fAll_ap, fAny_ap, fSum_ap, fSorted_ap, fBest_ap, fIdx_ap, fRepr_ap, mPermA_ap, fBack_ap, gSplice_ap, mSortSet_ap, fMulY_ap, mTupRan_ap, mFz_ap, mGh_ap, fIsX_ap, mGhO_ap, ia_none_int, ia_none_bool, ia_none_list, ia_none_tuple, ia_none_str, ia_none_seq, ia_bool_int, ia_bool_bool, ia_bool_list, ia_bool_tuple, ia_bool_str, ia_bool_seq, ia_int_int, ia_int_bool, ia_int_list, ia_int_tuple, ia_int_str, ia_int_seq, ia_str_int, ia_str_bool, ia_str_list, ia_str_tuple, ia_str_str, ia_str_seq, ia_list_int, ia_list_bool, ia_list_list, ia_list_tuple, ia_list_str, ia_list_seq, ia_tuple_int, ia_tuple_bool, ia_tuple_list, ia_tuple_tuple, ia_tuple_str, ia_tuple_seq, mLst_ap, mTup_ap, mYes_ap, sizeLine_v, shaped_int, eqv_int, shaped_bool, eqv_bool, shaped_none, shaped_nilT, shaped_nilL, frz, frzAll, peek, res1, resAll, stoAll, argOf, argsOf, bors, wback, outAt, outsFrom, ownsStay, retv, wipeF, unwipe, sto, isNone, tyD, cY, cMul, cMod, cDiv, cPow, Cell.dat, b2n, frzS, frzL, fzV, fMulL, e4, e5]
  · simp [B_pick, mVar_ap, mLit_ap, m2_ap, mB_ap, mAndT_ap, mOrT_ap, mNotT_ap, mAndV_ap, mOrV_ap, mNotV_ap, mIfE_ap, mNil_ap, mCons_ap, mDisp_ap, gSet_ap, gsNil_ap, gsCons_ap, gTupD_ap, mSet_ap, mAsg_ap, mPar_ap, mExpr_ap, mRet_ap, mRetN_ap, mNext_ap, mBreak_ap, mCont_ap, mSeq_ap, mIf_ap, iSeq_ap, iRan_ap, iRan2_ap, iEnm_ap, iZp_ap, mFor_ap, mWhile_ap, mCall_ap, mkD_ap, mLc_ap, fI_ap, fAdd_ap, fSub_ap, fMul_ap, fMod_ap, fDiv_ap, fPow_ap, fLt_ap, fLe_ap, fGt_ap, fGe_ap, fIsN_ap, fNotN_ap, fIsB_ap, fIx_ap, fAddX_ap, fSubX_ap, fMulX_ap, m1_ap, fNeg_ap, mB1_ap, fLen_ap, fAbs_ap, fInt_ap, fMin2_ap, fMax2_ap, fList_ap, fTuple_ap, fStr_ap, mMt_ap, mMtZ_ap, fAppend_ap, fInsert_ap, fExtend_ap, fPopAt_ap, mChain_ap, oNone_ap, oSome_ap, mSl_ap, gIx_ap, fInX_ap, fNotInX_ap, mIsi_ap, fEqX_ap, fNeX_ap, fAll_ap, fAny_ap, fSum_ap, fSorted_ap, fBest_ap, fIdx_ap, fRepr_ap, mPermA_ap, fBack_ap, gSplice_ap, mSortSet_ap, fMulY_ap, mTupRan_ap, mFz_ap, mGh_ap, fIsX_ap, mGhO_ap, ia_none_int, ia_none_bool, ia_none_list, ia_none_tuple, ia_none_str, ia_none_seq, ia_bool_int, ia_bool_bool, ia_bool_list, ia_bool_tuple, ia_bool_str, ia_bool_seq, ia_int_int, ia_int_bool, ia_int_list, ia_int_tuple, ia_int_str, ia_int_seq, ia_str_int, ia_str_bool, ia_str_list, ia_str_tuple, ia_str_str, ia_str_seq, ia_list_int, ia_list_bool, ia_list_list, ia_list_tuple, ia_list_str, ia_list_seq, ia_tuple_int, ia_tuple_bool, ia_tuple_list, ia_tuple_tuple, ia_tuple_str, ia_tuple_seq, mLst_ap, mTup_ap, mYes_ap, sizeLine_v, shaped_int, eqv_int, shaped_bool, eqv_bool, shaped_none, shaped_nilT, shaped_nilL, frz, frzAll, peek, res1, resAll, stoAll, argOf, argsOf, bors, wback, outAt, outsFrom, ownsStay, retv, wipeF, unwipe, sto, isNone, tyD, cY, cMul, cMod, cDiv, cPow, Cell.dat, b2n, frzS, frzL, fzV, fMulL, e4, e5]
  · simp [B_pick, mVar_ap, mLit_ap, m2_ap, mB_ap, mAndT_ap, mOrT_ap, mNotT_ap, mAndV_ap, mOrV_ap, mNotV_ap, mIfE_ap, mNil_ap, mCons_ap, mDisp_ap, gSet_ap, gsNil_ap, gsCons_ap, gTupD_ap, mSet_ap, mAsg_ap, mPar_ap, mExpr_ap, mRet_ap, mRetN_ap, mNext_ap, mBreak_ap, mCont_ap, mSeq_ap, mIf_ap, iSeq_ap, iRan_ap, iRan2_ap, iEnm_ap, iZp_ap, mFor_ap, mWhile_ap, mCall_ap, mkD_ap, mLc_ap, fI_ap, fAdd_ap, fSub_ap, fMul_ap, fMod_ap, fDiv_ap, fPow_ap, fLt_ap, fLe_ap, fGt_ap, fGe_ap, fIsN_ap, fNotN_ap, fIsB_ap, fIx_ap, fAddX_ap, fSubX_ap, fMulX_ap, m1_ap, fNeg_ap, mB1_ap, fLen_ap, fAbs_ap, fInt_ap, fMin2_ap, fMax2_ap, fList_ap, fTuple_ap, fStr_ap, mMt_ap, mMtZ_ap, fAppend_ap, fInsert_ap, fExtend_ap, fPopAt_ap, mChain_ap, oNone_ap, oSome_ap, mSl_ap, gIx_ap, fInX_ap, fNotInX_ap, mIsi_ap, fEqX_ap, fNeX_ap, fAll_ap, fAny_ap, fSum_ap, fSorted_ap, fBest_ap, fIdx_ap, fRepr_ap, mPermA_ap, fBack_ap, gSplice_ap, mSortSet_ap, fMulY_ap, mTupRan_ap, mFz_ap, mGh_ap, fIsX_ap, mGhO_ap, ia_none_int, ia_none_bool, ia_none_list, ia_none_tuple, ia_none_str, ia_none_seq, ia_bool_int, ia_bool_bool, ia_bool_list, ia_bool_tuple, ia_bool_str, ia_bool_seq, ia_int_int, ia_int_bool, ia_int_list, ia_int_tuple, ia_int_str, ia_int_seq, ia_str_int, ia_str_bool, ia_str_list, ia_str_tuple, ia_str_str, ia_str_seq, ia_list_int, ia_list_bool, ia_list_list, ia_list_tuple, ia_list_str, ia_list_seq, ia_tuple_int, ia_tuple_bool, ia_tuple_list, ia_tuple_tuple, ia_tuple_str, ia_tuple_seq, mLst_ap, mTup_ap, mYes_ap, sizeLine_v, shaped_int, eqv_int, shaped_bool, eqv_bool, shaped_none, shaped_nilT, shaped_nilL, frz, frzAll, peek, res1, resAll, stoAll, argOf, argsOf, bors, wback, outAt, outsFrom, ownsStay, retv, wipeF, unwipe, sto, isNone, tyD, cY, cMul, cMod, cDiv, cPow, Cell.dat, b2n, frzS, frzL, fzV, fMulL, e4, e5]
def SpBox (D : Dm) : Prop := ∀ (ns : List Int) (k : Int), 0 ≤ k → k ≤ 3 → ns.length ≤ 63 → ∃ c, Bx 0 (.own c) ∧ D [.dat (scr ns), .dat (.int k)] = some (.fre c, [.dat (scr ns), .dat (.int k)])
theorem sp_box : SpBox B_box := by
  intro ns k h0 hk hl
  have key : ∀ x : Int, Bx 0 (bxS ((if x < 0 then -x else x) * (if 1000000000000000000 ≤ (if x < 0 then -x else x) then 1 else 0)) ((x % 2147483629 + 15511 * k + 23) * 40361 % 2147483563) 0) := fun x => by
    refine ⟨_, _, _, rfl, Int.mul_nonneg ?_ ?_, Int.emod_nonneg _ (by decide), Int.emod_lt_of_pos _ (by decide), by decide, by decide⟩
    · split <;> omega
    · split <;> omega
  have e2 : scr ns = .list (ns.map .int) := rfl
  by_cases hlt : k < ns.length
  · have hq : k.toNat < ns.length := by omega
    refine ⟨_, key ns[k.toNat], ?_⟩
    by_cases h18 : 1000000000000000000 ≤ (if ns[k.toNat] < 0 then -ns[k.toNat] else ns[k.toNat])
    · simp [B_box, mVar_ap, mLit_ap, m2_ap, mB_ap, mAndT_ap, mOrT_ap, mNotT_ap, mAndV_ap, mOrV_ap, mNotV_ap, mIfE_ap, mNil_ap, mCons_ap, mDisp_ap, gSet_ap, gsNil_ap, gsCons_ap, gTupD_ap, mSet_ap, mAsg_ap, mPar_ap, mExpr_ap, mRet_ap, mRetN_ap, mNext_ap, mBreak_ap, mCont_ap, mSeq_ap, mIf_ap, iSeq_ap, iRan_ap, iRan2_ap, iEnm_ap, iZp_ap, mFor_ap, mWhile_ap, mCall_ap, mkD_ap, mLc_ap, fI_ap, fAdd_ap, fSub_ap, fMul_ap, fMod_ap, fDiv_ap, fPow_ap, fLt_ap, fLe_ap, fGt_ap, fGe_ap, fIsN_ap, fNotN_ap, fIsB_ap, fIx_ap, fAddX_ap, fSubX_ap, fMulX_ap, m1_ap, fNeg_ap, mB1_ap, fLen_ap, fAbs_ap, fInt_ap, fMin2_ap, fMax2_ap, fList_ap, fTuple_ap, fStr_ap, mMt_ap, mMtZ_ap, fAppend_ap, fInsert_ap, fExtend_ap, fPopAt_ap, mChain_ap, oNone_ap, oSome_ap, mSl_ap, gIx_ap, fInX_ap, fNotInX_ap, mIsi_ap, fEqX_ap, fNeX_ap, fAll_ap, fAny_ap, fSum_ap, fSorted_ap, fBest_ap, fIdx_ap, fRepr_ap, mPermA_ap, fBack_ap, gSplice_ap, mSortSet_ap, fMulY_ap, mTupRan_ap, mFz_ap, mGh_ap, fIsX_ap, mGhO_ap, ia_none_int, ia_none_bool, ia_none_list, ia_none_tuple, ia_none_str, ia_none_seq, ia_bool_int, ia_bool_bool, ia_bool_list, ia_bool_tuple, ia_bool_str, ia_bool_seq, ia_int_int, ia_int_bool, ia_int_list, ia_int_tuple, ia_int_str, ia_int_seq, ia_str_int, ia_str_bool, ia_str_list, ia_str_tuple, ia_str_str, ia_str_seq, ia_list_int, ia_list_bool, ia_list_list, ia_list_tuple, ia_list_str, ia_list_seq, ia_tuple_int, ia_tuple_bool, ia_tuple_list, ia_tuple_tuple, ia_tuple_str, ia_tuple_seq, mLst_ap, mTup_ap, mYes_ap, sizeLine_v, shaped_int, eqv_int, shaped_bool, eqv_bool, shaped_none, shaped_nilT, shaped_nilL, frz, frzAll, peek, res1, resAll, stoAll, argOf, argsOf, bors, wback, outAt, outsFrom, ownsStay, retv, wipeF, unwipe, sto, isNone, tyD, cY, cMul, cMod, cDiv, cPow, Cell.dat, b2n, frzS, frzL, fzV, atI, ixN, fMulL, e2, hlt, h0, hq, h18]
    · simp [B_box, mVar_ap, mLit_ap, m2_ap, mB_ap, mAndT_ap, mOrT_ap, mNotT_ap, mAndV_ap, mOrV_ap, mNotV_ap, mIfE_ap, mNil_ap, mCons_ap, mDisp_ap, gSet_ap, gsNil_ap, gsCons_ap, gTupD_ap, mSet_ap, mAsg_ap, mPar_ap, mExpr_ap, mRet_ap, mRetN_ap, mNext_ap, mBreak_ap, mCont_ap, mSeq_ap, mIf_ap, iSeq_ap, iRan_ap, iRan2_ap, iEnm_ap, iZp_ap, mFor_ap, mWhile_ap, mCall_ap, mkD_ap, mLc_ap, fI_ap, fAdd_ap, fSub_ap, fMul_ap, fMod_ap, fDiv_ap, fPow_ap, fLt_ap, fLe_ap, fGt_ap, fGe_ap, fIsN_ap, fNotN_ap, fIsB_ap, fIx_ap, fAddX_ap, fSubX_ap, fMulX_ap, m1_ap, fNeg_ap, mB1_ap, fLen_ap, fAbs_ap, fInt_ap, fMin2_ap, fMax2_ap, fList_ap, fTuple_ap, fStr_ap, mMt_ap, mMtZ_ap, fAppend_ap, fInsert_ap, fExtend_ap, fPopAt_ap, mChain_ap, oNone_ap, oSome_ap, mSl_ap, gIx_ap, fInX_ap, fNotInX_ap, mIsi_ap, fEqX_ap, fNeX_ap, fAll_ap, fAny_ap, fSum_ap, fSorted_ap, fBest_ap, fIdx_ap, fRepr_ap, mPermA_ap, fBack_ap, gSplice_ap, mSortSet_ap, fMulY_ap, mTupRan_ap, mFz_ap, mGh_ap, fIsX_ap, mGhO_ap, ia_none_int, ia_none_bool, ia_none_list, ia_none_tuple, ia_none_str, ia_none_seq, ia_bool_int, ia_bool_bool, ia_bool_list, ia_bool_tuple, ia_bool_str, ia_bool_seq, ia_int_int, ia_int_bool, ia_int_list, ia_int_tuple, ia_int_str, ia_int_seq, ia_str_int, ia_str_bool, ia_str_list, ia_str_tuple, ia_str_str, ia_str_seq, ia_list_int, ia_list_bool, ia_list_list, ia_list_tuple, ia_list_str, ia_list_seq, ia_tuple_int, ia_tuple_bool, ia_tuple_list, ia_tuple_tuple, ia_tuple_str, ia_tuple_seq, mLst_ap, mTup_ap, mYes_ap, sizeLine_v, shaped_int, eqv_int, shaped_bool, eqv_bool, shaped_none, shaped_nilT, shaped_nilL, frz, frzAll, peek, res1, resAll, stoAll, argOf, argsOf, bors, wback, outAt, outsFrom, ownsStay, retv, wipeF, unwipe, sto, isNone, tyD, cY, cMul, cMod, cDiv, cPow, Cell.dat, b2n, frzS, frzL, fzV, atI, ixN, fMulL, e2, hlt, h0, hq, h18]
  · refine ⟨_, key 0, ?_⟩
    simp [B_box, mVar_ap, mLit_ap, m2_ap, mB_ap, mAndT_ap, mOrT_ap, mNotT_ap, mAndV_ap, mOrV_ap, mNotV_ap, mIfE_ap, mNil_ap, mCons_ap, mDisp_ap, gSet_ap, gsNil_ap, gsCons_ap, gTupD_ap, mSet_ap, mAsg_ap, mPar_ap, mExpr_ap, mRet_ap, mRetN_ap, mNext_ap, mBreak_ap, mCont_ap, mSeq_ap, mIf_ap, iSeq_ap, iRan_ap, iRan2_ap, iEnm_ap, iZp_ap, mFor_ap, mWhile_ap, mCall_ap, mkD_ap, mLc_ap, fI_ap, fAdd_ap, fSub_ap, fMul_ap, fMod_ap, fDiv_ap, fPow_ap, fLt_ap, fLe_ap, fGt_ap, fGe_ap, fIsN_ap, fNotN_ap, fIsB_ap, fIx_ap, fAddX_ap, fSubX_ap, fMulX_ap, m1_ap, fNeg_ap, mB1_ap, fLen_ap, fAbs_ap, fInt_ap, fMin2_ap, fMax2_ap, fList_ap, fTuple_ap, fStr_ap, mMt_ap, mMtZ_ap, fAppend_ap, fInsert_ap, fExtend_ap, fPopAt_ap, mChain_ap, oNone_ap, oSome_ap, mSl_ap, gIx_ap, fInX_ap, fNotInX_ap, mIsi_ap, fEqX_ap, fNeX_ap, fAll_ap, fAny_ap, fSum_ap, fSorted_ap, fBest_ap, fIdx_ap, fRepr_ap, mPermA_ap, fBack_ap, gSplice_ap, mSortSet_ap, fMulY_ap, mTupRan_ap, mFz_ap, mGh_ap, fIsX_ap, mGhO_ap, ia_none_int, ia_none_bool, ia_none_list, ia_none_tuple, ia_none_str, ia_none_seq, ia_bool_int, ia_bool_bool, ia_bool_list, ia_bool_tuple, ia_bool_str, ia_bool_seq, ia_int_int, ia_int_bool, ia_int_list, ia_int_tuple, ia_int_str, ia_int_seq, ia_str_int, ia_str_bool, ia_str_list, ia_str_tuple, ia_str_str, ia_str_seq, ia_list_int, ia_list_bool, ia_list_list, ia_list_tuple, ia_list_str, ia_list_seq, ia_tuple_int, ia_tuple_bool, ia_tuple_list, ia_tuple_tuple, ia_tuple_str, ia_tuple_seq, mLst_ap, mTup_ap, mYes_ap, sizeLine_v, shaped_int, eqv_int, shaped_bool, eqv_bool, shaped_none, shaped_nilT, shaped_nilL, frz, frzAll, peek, res1, resAll, stoAll, argOf, argsOf, bors, wback, outAt, outsFrom, ownsStay, retv, wipeF, unwipe, sto, isNone, tyD, cY, cMul, cMod, cDiv, cPow, Cell.dat, b2n, frzS, frzL, fzV, atI, ixN, fMulL, e2, hlt, h0]
end Rf

/-! Sp2: same, lists. -/
namespace Rf
open PySem PySem.Spec PyProof.Rows L2
/-- a slot that holds this data, frozen or its own list -/
def Sd (s : S0) (d : PyData) : Prop := s = .dat d ∨ ∃ ds, d = .list ds ∧ s = .own (.lst ds)
theorem zip2_self {x : PyData} : ∀ {ds : List PyData}, x ∈ zip2 ds ds → ∃ a ∈ ds, x = .tuple [a, a]
  | [], h => by simp [zip2] at h
  | d :: ds, h => by
    simp only [zip2] at h
    rcases List.mem_cons.1 h with h | h
    · exact ⟨d, by simp, h⟩
    · obtain ⟨a, m, e⟩ := zip2_self h
      exact ⟨a, by simp [m], e⟩
theorem zip2_len2 : ∀ as : List PyData, (zip2 as as).length = as.length
  | [] => by simp [zip2]
  | a :: as => by simp [zip2, zip2_len2 as]
theorem bools_true (ds : List PyData) : boolsD (ds.map fun _ => PyData.bool true) = some (ds.map fun _ => true) := boolsD_map (fun _ => true) ds
theorem Ok.sh {l b h : Nat} {d : PyData} (o : Ok l b h d) (hh : h ≤ 60) : SeqAt.shaped d = true := o.shaped hh
def SpSame (l b h : Nat) (D : Dm) : Prop := ∀ (d : PyData) (s t : S0), Ok l b h d → Sd s d → Sd t d → ∃ outs, D [s, t] = some (.dat (.bool true), outs)
theorem eqv_self_str (x : Str) : PyData.eqv (.str x) (.str x) = true := by simp [PyData.eqv]
theorem same_flat {T : Dm} {l b h : Nat} {d : PyData} (o : Ok l b h d) (hd : ∀ ds, d ≠ .list ds ∧ d ≠ .tuple ds) : ∃ outs, B_same T [.dat d, .dat d] = some (.dat (.bool true), outs) := by
  match d, o with
  | .none, _ => exact ⟨_, by simp [B_same, mVar_ap, mLit_ap, m2_ap, mB_ap, mAndT_ap, mOrT_ap, mNotT_ap, mAndV_ap, mOrV_ap, mNotV_ap, mIfE_ap, mNil_ap, mCons_ap, mDisp_ap, gSet_ap, gsNil_ap, gsCons_ap, gTupD_ap, mSet_ap, mAsg_ap, mPar_ap, mExpr_ap, mRet_ap, mRetN_ap, mNext_ap, mBreak_ap, mCont_ap, mSeq_ap, mIf_ap, iSeq_ap, iRan_ap, iRan2_ap, iEnm_ap, iZp_ap, mFor_ap, mWhile_ap, mCall_ap, mkD_ap, mLc_ap, fI_ap, fAdd_ap, fSub_ap, fMul_ap, fMod_ap, fDiv_ap, fPow_ap, fLt_ap, fLe_ap, fGt_ap, fGe_ap, fIsN_ap, fNotN_ap, fIsB_ap, fIx_ap, fAddX_ap, fSubX_ap, fMulX_ap, m1_ap, fNeg_ap, mB1_ap, fLen_ap, fAbs_ap, fInt_ap, fMin2_ap, fMax2_ap, fList_ap, fTuple_ap, fStr_ap, mMt_ap, mMtZ_ap, fAppend_ap, fInsert_ap, fExtend_ap, fPopAt_ap, mChain_ap, oNone_ap, oSome_ap, mSl_ap, gIx_ap, fInX_ap, fNotInX_ap, mIsi_ap, fEqX_ap, fNeX_ap, fAll_ap, fAny_ap, fSum_ap, fSorted_ap, fBest_ap, fIdx_ap, fRepr_ap, mPermA_ap, fBack_ap, gSplice_ap, mSortSet_ap, fMulY_ap, mTupRan_ap, mFz_ap, mGh_ap, fIsX_ap, mGhO_ap, ia_none_int, ia_none_bool, ia_none_list, ia_none_tuple, ia_none_str, ia_none_seq, ia_bool_int, ia_bool_bool, ia_bool_list, ia_bool_tuple, ia_bool_str, ia_bool_seq, ia_int_int, ia_int_bool, ia_int_list, ia_int_tuple, ia_int_str, ia_int_seq, ia_str_int, ia_str_bool, ia_str_list, ia_str_tuple, ia_str_str, ia_str_seq, ia_list_int, ia_list_bool, ia_list_list, ia_list_tuple, ia_list_str, ia_list_seq, ia_tuple_int, ia_tuple_bool, ia_tuple_list, ia_tuple_tuple, ia_tuple_str, ia_tuple_seq, mLst_ap, mTup_ap, mYes_ap, sizeLine_v, shaped_int, eqv_int, shaped_bool, eqv_bool, shaped_none, shaped_nilT, shaped_nilL, frz, frzAll, peek, res1, resAll, stoAll, argOf, argsOf, bors, wback, outAt, outsFrom, ownsStay, retv, wipeF, unwipe, sto, isNone, tyD, cY, cMul, cMod, cDiv, cPow, Cell.dat, b2n, frzS, frzL, fzV, atI, ixN, fMulL, PyData.eqv]; rfl⟩
  | .bool t, _ => exact ⟨_, by simp [B_same, mVar_ap, mLit_ap, m2_ap, mB_ap, mAndT_ap, mOrT_ap, mNotT_ap, mAndV_ap, mOrV_ap, mNotV_ap, mIfE_ap, mNil_ap, mCons_ap, mDisp_ap, gSet_ap, gsNil_ap, gsCons_ap, gTupD_ap, mSet_ap, mAsg_ap, mPar_ap, mExpr_ap, mRet_ap, mRetN_ap, mNext_ap, mBreak_ap, mCont_ap, mSeq_ap, mIf_ap, iSeq_ap, iRan_ap, iRan2_ap, iEnm_ap, iZp_ap, mFor_ap, mWhile_ap, mCall_ap, mkD_ap, mLc_ap, fI_ap, fAdd_ap, fSub_ap, fMul_ap, fMod_ap, fDiv_ap, fPow_ap, fLt_ap, fLe_ap, fGt_ap, fGe_ap, fIsN_ap, fNotN_ap, fIsB_ap, fIx_ap, fAddX_ap, fSubX_ap, fMulX_ap, m1_ap, fNeg_ap, mB1_ap, fLen_ap, fAbs_ap, fInt_ap, fMin2_ap, fMax2_ap, fList_ap, fTuple_ap, fStr_ap, mMt_ap, mMtZ_ap, fAppend_ap, fInsert_ap, fExtend_ap, fPopAt_ap, mChain_ap, oNone_ap, oSome_ap, mSl_ap, gIx_ap, fInX_ap, fNotInX_ap, mIsi_ap, fEqX_ap, fNeX_ap, fAll_ap, fAny_ap, fSum_ap, fSorted_ap, fBest_ap, fIdx_ap, fRepr_ap, mPermA_ap, fBack_ap, gSplice_ap, mSortSet_ap, fMulY_ap, mTupRan_ap, mFz_ap, mGh_ap, fIsX_ap, mGhO_ap, ia_none_int, ia_none_bool, ia_none_list, ia_none_tuple, ia_none_str, ia_none_seq, ia_bool_int, ia_bool_bool, ia_bool_list, ia_bool_tuple, ia_bool_str, ia_bool_seq, ia_int_int, ia_int_bool, ia_int_list, ia_int_tuple, ia_int_str, ia_int_seq, ia_str_int, ia_str_bool, ia_str_list, ia_str_tuple, ia_str_str, ia_str_seq, ia_list_int, ia_list_bool, ia_list_list, ia_list_tuple, ia_list_str, ia_list_seq, ia_tuple_int, ia_tuple_bool, ia_tuple_list, ia_tuple_tuple, ia_tuple_str, ia_tuple_seq, mLst_ap, mTup_ap, mYes_ap, sizeLine_v, shaped_int, eqv_int, shaped_bool, eqv_bool, shaped_none, shaped_nilT, shaped_nilL, frz, frzAll, peek, res1, resAll, stoAll, argOf, argsOf, bors, wback, outAt, outsFrom, ownsStay, retv, wipeF, unwipe, sto, isNone, tyD, cY, cMul, cMod, cDiv, cPow, Cell.dat, b2n, frzS, frzL, fzV, atI, ixN, fMulL]; rfl⟩
  | .int t, _ => exact ⟨_, by simp [B_same, mVar_ap, mLit_ap, m2_ap, mB_ap, mAndT_ap, mOrT_ap, mNotT_ap, mAndV_ap, mOrV_ap, mNotV_ap, mIfE_ap, mNil_ap, mCons_ap, mDisp_ap, gSet_ap, gsNil_ap, gsCons_ap, gTupD_ap, mSet_ap, mAsg_ap, mPar_ap, mExpr_ap, mRet_ap, mRetN_ap, mNext_ap, mBreak_ap, mCont_ap, mSeq_ap, mIf_ap, iSeq_ap, iRan_ap, iRan2_ap, iEnm_ap, iZp_ap, mFor_ap, mWhile_ap, mCall_ap, mkD_ap, mLc_ap, fI_ap, fAdd_ap, fSub_ap, fMul_ap, fMod_ap, fDiv_ap, fPow_ap, fLt_ap, fLe_ap, fGt_ap, fGe_ap, fIsN_ap, fNotN_ap, fIsB_ap, fIx_ap, fAddX_ap, fSubX_ap, fMulX_ap, m1_ap, fNeg_ap, mB1_ap, fLen_ap, fAbs_ap, fInt_ap, fMin2_ap, fMax2_ap, fList_ap, fTuple_ap, fStr_ap, mMt_ap, mMtZ_ap, fAppend_ap, fInsert_ap, fExtend_ap, fPopAt_ap, mChain_ap, oNone_ap, oSome_ap, mSl_ap, gIx_ap, fInX_ap, fNotInX_ap, mIsi_ap, fEqX_ap, fNeX_ap, fAll_ap, fAny_ap, fSum_ap, fSorted_ap, fBest_ap, fIdx_ap, fRepr_ap, mPermA_ap, fBack_ap, gSplice_ap, mSortSet_ap, fMulY_ap, mTupRan_ap, mFz_ap, mGh_ap, fIsX_ap, mGhO_ap, ia_none_int, ia_none_bool, ia_none_list, ia_none_tuple, ia_none_str, ia_none_seq, ia_bool_int, ia_bool_bool, ia_bool_list, ia_bool_tuple, ia_bool_str, ia_bool_seq, ia_int_int, ia_int_bool, ia_int_list, ia_int_tuple, ia_int_str, ia_int_seq, ia_str_int, ia_str_bool, ia_str_list, ia_str_tuple, ia_str_str, ia_str_seq, ia_list_int, ia_list_bool, ia_list_list, ia_list_tuple, ia_list_str, ia_list_seq, ia_tuple_int, ia_tuple_bool, ia_tuple_list, ia_tuple_tuple, ia_tuple_str, ia_tuple_seq, mLst_ap, mTup_ap, mYes_ap, sizeLine_v, shaped_int, eqv_int, shaped_bool, eqv_bool, shaped_none, shaped_nilT, shaped_nilL, frz, frzAll, peek, res1, resAll, stoAll, argOf, argsOf, bors, wback, outAt, outsFrom, ownsStay, retv, wipeF, unwipe, sto, isNone, tyD, cY, cMul, cMod, cDiv, cPow, Cell.dat, b2n, frzS, frzL, fzV, atI, ixN, fMulL]; rfl⟩
  | .str t, o =>
    have h1 : SeqAt.shaped (.str t) = true := Ok.shaped (l := l) (b := b) (h := 0) (by simpa [Ok] using o) (by omega)
    exact ⟨_, by simp [B_same, mVar_ap, mLit_ap, m2_ap, mB_ap, mAndT_ap, mOrT_ap, mNotT_ap, mAndV_ap, mOrV_ap, mNotV_ap, mIfE_ap, mNil_ap, mCons_ap, mDisp_ap, gSet_ap, gsNil_ap, gsCons_ap, gTupD_ap, mSet_ap, mAsg_ap, mPar_ap, mExpr_ap, mRet_ap, mRetN_ap, mNext_ap, mBreak_ap, mCont_ap, mSeq_ap, mIf_ap, iSeq_ap, iRan_ap, iRan2_ap, iEnm_ap, iZp_ap, mFor_ap, mWhile_ap, mCall_ap, mkD_ap, mLc_ap, fI_ap, fAdd_ap, fSub_ap, fMul_ap, fMod_ap, fDiv_ap, fPow_ap, fLt_ap, fLe_ap, fGt_ap, fGe_ap, fIsN_ap, fNotN_ap, fIsB_ap, fIx_ap, fAddX_ap, fSubX_ap, fMulX_ap, m1_ap, fNeg_ap, mB1_ap, fLen_ap, fAbs_ap, fInt_ap, fMin2_ap, fMax2_ap, fList_ap, fTuple_ap, fStr_ap, mMt_ap, mMtZ_ap, fAppend_ap, fInsert_ap, fExtend_ap, fPopAt_ap, mChain_ap, oNone_ap, oSome_ap, mSl_ap, gIx_ap, fInX_ap, fNotInX_ap, mIsi_ap, fEqX_ap, fNeX_ap, fAll_ap, fAny_ap, fSum_ap, fSorted_ap, fBest_ap, fIdx_ap, fRepr_ap, mPermA_ap, fBack_ap, gSplice_ap, mSortSet_ap, fMulY_ap, mTupRan_ap, mFz_ap, mGh_ap, fIsX_ap, mGhO_ap, ia_none_int, ia_none_bool, ia_none_list, ia_none_tuple, ia_none_str, ia_none_seq, ia_bool_int, ia_bool_bool, ia_bool_list, ia_bool_tuple, ia_bool_str, ia_bool_seq, ia_int_int, ia_int_bool, ia_int_list, ia_int_tuple, ia_int_str, ia_int_seq, ia_str_int, ia_str_bool, ia_str_list, ia_str_tuple, ia_str_str, ia_str_seq, ia_list_int, ia_list_bool, ia_list_list, ia_list_tuple, ia_list_str, ia_list_seq, ia_tuple_int, ia_tuple_bool, ia_tuple_list, ia_tuple_tuple, ia_tuple_str, ia_tuple_seq, mLst_ap, mTup_ap, mYes_ap, sizeLine_v, shaped_int, eqv_int, shaped_bool, eqv_bool, shaped_none, shaped_nilT, shaped_nilL, frz, frzAll, peek, res1, resAll, stoAll, argOf, argsOf, bors, wback, outAt, outsFrom, ownsStay, retv, wipeF, unwipe, sto, isNone, tyD, cY, cMul, cMod, cDiv, cPow, Cell.dat, b2n, frzS, frzL, fzV, atI, ixN, fMulL, h1, eqv_self_str]; rfl⟩
  | .dict _, o => cases h <;> simp [Ok] at o
  | .list ds, _ => exact absurd rfl (hd ds).1
  | .tuple ds, _ => exact absurd rfl (hd ds).2
theorem same_0 {T : Dm} {l b : Nat} : SpSame l b 0 (B_same T) := by
  intro d s t o hs ht
  have hd : ∀ ds, d ≠ .list ds ∧ d ≠ .tuple ds := fun ds => ⟨fun e => by subst e; simp [Ok] at o, fun e => by subst e; simp [Ok] at o⟩
  rcases hs with rfl | ⟨ds, e, _⟩
  · rcases ht with rfl | ⟨ds, e, _⟩
    · exact same_flat o hd
    · exact absurd e (hd ds).1
  · exact absurd e (hd ds).1
theorem same_S {T : Dm} {l b h : Nat} (hl : l ≤ 1000000) (hT : SpSame l b h T) : SpSame l b (h + 1) (B_same T) := by
  intro d s t o hs ht
  have key : ∀ (ds : List PyData) (a b' : Option S0), ds.length ≤ l → (∀ x ∈ ds, Ok l b h x) → compM (gTupD 2 (gsCons (gSet 2) (gsCons (gSet 3) gsNil))) mYes (mCall T (mFz (mCons (mVar 2) (mCons (mVar 3) mNil)))) [2, 3] (zip2 ds ds) [a, b', none, none] [] = some ((zip2 ds ds).map fun _ => .bool true, [a, b', none, none]) := by
    intro ds a b' h1 h2
    refine comp_all [a, b', none, none] (fun _ => .bool true) (zip2 ds ds) (fun x m => ?_) (by rw [zip2_len2, sizeLine_v]; omega)
    obtain ⟨y, hy, rfl⟩ := zip2_self m
    obtain ⟨outs, e⟩ := hT y (.dat y) (.dat y) (h2 y hy) (.inl rfl) (.inl rfl)
    refine ⟨[a, b', some (.dat y), some (.dat y)], .dat (.bool true), [a, b', some (.dat y), some (.dat y)], [a, b', some (.dat y), some (.dat y)], by simp [mVar_ap, mLit_ap, m2_ap, mB_ap, mAndT_ap, mOrT_ap, mNotT_ap, mAndV_ap, mOrV_ap, mNotV_ap, mIfE_ap, mNil_ap, mCons_ap, mDisp_ap, gSet_ap, gsNil_ap, gsCons_ap, gTupD_ap, mSet_ap, mAsg_ap, mPar_ap, mExpr_ap, mRet_ap, mRetN_ap, mNext_ap, mBreak_ap, mCont_ap, mSeq_ap, mIf_ap, iSeq_ap, iRan_ap, iRan2_ap, iEnm_ap, iZp_ap, mFor_ap, mWhile_ap, mCall_ap, mkD_ap, mLc_ap, fI_ap, fAdd_ap, fSub_ap, fMul_ap, fMod_ap, fDiv_ap, fPow_ap, fLt_ap, fLe_ap, fGt_ap, fGe_ap, fIsN_ap, fNotN_ap, fIsB_ap, fIx_ap, fAddX_ap, fSubX_ap, fMulX_ap, m1_ap, fNeg_ap, mB1_ap, fLen_ap, fAbs_ap, fInt_ap, fMin2_ap, fMax2_ap, fList_ap, fTuple_ap, fStr_ap, mMt_ap, mMtZ_ap, fAppend_ap, fInsert_ap, fExtend_ap, fPopAt_ap, mChain_ap, oNone_ap, oSome_ap, mSl_ap, gIx_ap, fInX_ap, fNotInX_ap, mIsi_ap, fEqX_ap, fNeX_ap, fAll_ap, fAny_ap, fSum_ap, fSorted_ap, fBest_ap, fIdx_ap, fRepr_ap, mPermA_ap, fBack_ap, gSplice_ap, mSortSet_ap, fMulY_ap, mTupRan_ap, mFz_ap, mGh_ap, fIsX_ap, mGhO_ap, ia_none_int, ia_none_bool, ia_none_list, ia_none_tuple, ia_none_str, ia_none_seq, ia_bool_int, ia_bool_bool, ia_bool_list, ia_bool_tuple, ia_bool_str, ia_bool_seq, ia_int_int, ia_int_bool, ia_int_list, ia_int_tuple, ia_int_str, ia_int_seq, ia_str_int, ia_str_bool, ia_str_list, ia_str_tuple, ia_str_str, ia_str_seq, ia_list_int, ia_list_bool, ia_list_list, ia_list_tuple, ia_list_str, ia_list_seq, ia_tuple_int, ia_tuple_bool, ia_tuple_list, ia_tuple_tuple, ia_tuple_str, ia_tuple_seq, mLst_ap, mTup_ap, mYes_ap, sizeLine_v, shaped_int, eqv_int, shaped_bool, eqv_bool, shaped_none, shaped_nilT, shaped_nilL, frz, frzAll, peek, res1, resAll, stoAll, argOf, argsOf, bors, wback, outAt, outsFrom, ownsStay, retv, wipeF, unwipe, sto, isNone, tyD, cY, cMul, cMod, cDiv, cPow, Cell.dat, b2n, frzS, frzL, fzV, atI, ixN, fMulL], ?_, rfl, by simp [wipeF]⟩
    simp [mVar_ap, mLit_ap, m2_ap, mB_ap, mAndT_ap, mOrT_ap, mNotT_ap, mAndV_ap, mOrV_ap, mNotV_ap, mIfE_ap, mNil_ap, mCons_ap, mDisp_ap, gSet_ap, gsNil_ap, gsCons_ap, gTupD_ap, mSet_ap, mAsg_ap, mPar_ap, mExpr_ap, mRet_ap, mRetN_ap, mNext_ap, mBreak_ap, mCont_ap, mSeq_ap, mIf_ap, iSeq_ap, iRan_ap, iRan2_ap, iEnm_ap, iZp_ap, mFor_ap, mWhile_ap, mCall_ap, mkD_ap, mLc_ap, fI_ap, fAdd_ap, fSub_ap, fMul_ap, fMod_ap, fDiv_ap, fPow_ap, fLt_ap, fLe_ap, fGt_ap, fGe_ap, fIsN_ap, fNotN_ap, fIsB_ap, fIx_ap, fAddX_ap, fSubX_ap, fMulX_ap, m1_ap, fNeg_ap, mB1_ap, fLen_ap, fAbs_ap, fInt_ap, fMin2_ap, fMax2_ap, fList_ap, fTuple_ap, fStr_ap, mMt_ap, mMtZ_ap, fAppend_ap, fInsert_ap, fExtend_ap, fPopAt_ap, mChain_ap, oNone_ap, oSome_ap, mSl_ap, gIx_ap, fInX_ap, fNotInX_ap, mIsi_ap, fEqX_ap, fNeX_ap, fAll_ap, fAny_ap, fSum_ap, fSorted_ap, fBest_ap, fIdx_ap, fRepr_ap, mPermA_ap, fBack_ap, gSplice_ap, mSortSet_ap, fMulY_ap, mTupRan_ap, mFz_ap, mGh_ap, fIsX_ap, mGhO_ap, ia_none_int, ia_none_bool, ia_none_list, ia_none_tuple, ia_none_str, ia_none_seq, ia_bool_int, ia_bool_bool, ia_bool_list, ia_bool_tuple, ia_bool_str, ia_bool_seq, ia_int_int, ia_int_bool, ia_int_list, ia_int_tuple, ia_int_str, ia_int_seq, ia_str_int, ia_str_bool, ia_str_list, ia_str_tuple, ia_str_str, ia_str_seq, ia_list_int, ia_list_bool, ia_list_list, ia_list_tuple, ia_list_str, ia_list_seq, ia_tuple_int, ia_tuple_bool, ia_tuple_list, ia_tuple_tuple, ia_tuple_str, ia_tuple_seq, mLst_ap, mTup_ap, mYes_ap, sizeLine_v, shaped_int, eqv_int, shaped_bool, eqv_bool, shaped_none, shaped_nilT, shaped_nilL, frz, frzAll, peek, res1, resAll, stoAll, argOf, argsOf, bors, wback, outAt, outsFrom, ownsStay, retv, wipeF, unwipe, sto, isNone, tyD, cY, cMul, cMod, cDiv, cPow, Cell.dat, b2n, frzS, frzL, fzV, atI, ixN, fMulL, e, wback_d2]
  by_cases hd : ∀ ds, d ≠ .list ds ∧ d ≠ .tuple ds
  · rcases hs with rfl | ⟨ds, e, _⟩
    · rcases ht with rfl | ⟨ds, e, _⟩
      · exact same_flat o hd
      · exact absurd e (hd ds).1
    · exact absurd e (hd ds).1
  · match d, o with
    | .none, _ => exact absurd (fun ds => ⟨(fun e => nomatch e), fun e => nomatch e⟩) hd
    | .bool _, _ => exact absurd (fun ds => ⟨(fun e => nomatch e), fun e => nomatch e⟩) hd
    | .int _, _ => exact absurd (fun ds => ⟨(fun e => nomatch e), fun e => nomatch e⟩) hd
    | .str _, _ => exact absurd (fun ds => ⟨(fun e => nomatch e), fun e => nomatch e⟩) hd
    | .dict _, o => simp [Ok] at o
    | .list ds, o =>
      simp only [Ok] at o
      have k := key ds
      have hb := bools_true (zip2 ds ds)
      rcases hs with rfl | ⟨_, e, rfl⟩
      · rcases ht with rfl | ⟨_, e, rfl⟩
        · exact ⟨_, by simp [B_same, mVar_ap, mLit_ap, m2_ap, mB_ap, mAndT_ap, mOrT_ap, mNotT_ap, mAndV_ap, mOrV_ap, mNotV_ap, mIfE_ap, mNil_ap, mCons_ap, mDisp_ap, gSet_ap, gsNil_ap, gsCons_ap, gTupD_ap, mSet_ap, mAsg_ap, mPar_ap, mExpr_ap, mRet_ap, mRetN_ap, mNext_ap, mBreak_ap, mCont_ap, mSeq_ap, mIf_ap, iSeq_ap, iRan_ap, iRan2_ap, iEnm_ap, iZp_ap, mFor_ap, mWhile_ap, mCall_ap, mkD_ap, mLc_ap, fI_ap, fAdd_ap, fSub_ap, fMul_ap, fMod_ap, fDiv_ap, fPow_ap, fLt_ap, fLe_ap, fGt_ap, fGe_ap, fIsN_ap, fNotN_ap, fIsB_ap, fIx_ap, fAddX_ap, fSubX_ap, fMulX_ap, m1_ap, fNeg_ap, mB1_ap, fLen_ap, fAbs_ap, fInt_ap, fMin2_ap, fMax2_ap, fList_ap, fTuple_ap, fStr_ap, mMt_ap, mMtZ_ap, fAppend_ap, fInsert_ap, fExtend_ap, fPopAt_ap, mChain_ap, oNone_ap, oSome_ap, mSl_ap, gIx_ap, fInX_ap, fNotInX_ap, mIsi_ap, fEqX_ap, fNeX_ap, fAll_ap, fAny_ap, fSum_ap, fSorted_ap, fBest_ap, fIdx_ap, fRepr_ap, mPermA_ap, fBack_ap, gSplice_ap, mSortSet_ap, fMulY_ap, mTupRan_ap, mFz_ap, mGh_ap, fIsX_ap, mGhO_ap, ia_none_int, ia_none_bool, ia_none_list, ia_none_tuple, ia_none_str, ia_none_seq, ia_bool_int, ia_bool_bool, ia_bool_list, ia_bool_tuple, ia_bool_str, ia_bool_seq, ia_int_int, ia_int_bool, ia_int_list, ia_int_tuple, ia_int_str, ia_int_seq, ia_str_int, ia_str_bool, ia_str_list, ia_str_tuple, ia_str_str, ia_str_seq, ia_list_int, ia_list_bool, ia_list_list, ia_list_tuple, ia_list_str, ia_list_seq, ia_tuple_int, ia_tuple_bool, ia_tuple_list, ia_tuple_tuple, ia_tuple_str, ia_tuple_seq, mLst_ap, mTup_ap, mYes_ap, sizeLine_v, shaped_int, eqv_int, shaped_bool, eqv_bool, shaped_none, shaped_nilT, shaped_nilL, frz, frzAll, peek, res1, resAll, stoAll, argOf, argsOf, bors, wback, outAt, outsFrom, ownsStay, retv, wipeF, unwipe, sto, isNone, tyD, cY, cMul, cMod, cDiv, cPow, Cell.dat, b2n, frzS, frzL, fzV, atI, ixN, fMulL, k _ _ o.1 o.2, hb]; rfl⟩
        · cases e; exact ⟨_, by simp [B_same, mVar_ap, mLit_ap, m2_ap, mB_ap, mAndT_ap, mOrT_ap, mNotT_ap, mAndV_ap, mOrV_ap, mNotV_ap, mIfE_ap, mNil_ap, mCons_ap, mDisp_ap, gSet_ap, gsNil_ap, gsCons_ap, gTupD_ap, mSet_ap, mAsg_ap, mPar_ap, mExpr_ap, mRet_ap, mRetN_ap, mNext_ap, mBreak_ap, mCont_ap, mSeq_ap, mIf_ap, iSeq_ap, iRan_ap, iRan2_ap, iEnm_ap, iZp_ap, mFor_ap, mWhile_ap, mCall_ap, mkD_ap, mLc_ap, fI_ap, fAdd_ap, fSub_ap, fMul_ap, fMod_ap, fDiv_ap, fPow_ap, fLt_ap, fLe_ap, fGt_ap, fGe_ap, fIsN_ap, fNotN_ap, fIsB_ap, fIx_ap, fAddX_ap, fSubX_ap, fMulX_ap, m1_ap, fNeg_ap, mB1_ap, fLen_ap, fAbs_ap, fInt_ap, fMin2_ap, fMax2_ap, fList_ap, fTuple_ap, fStr_ap, mMt_ap, mMtZ_ap, fAppend_ap, fInsert_ap, fExtend_ap, fPopAt_ap, mChain_ap, oNone_ap, oSome_ap, mSl_ap, gIx_ap, fInX_ap, fNotInX_ap, mIsi_ap, fEqX_ap, fNeX_ap, fAll_ap, fAny_ap, fSum_ap, fSorted_ap, fBest_ap, fIdx_ap, fRepr_ap, mPermA_ap, fBack_ap, gSplice_ap, mSortSet_ap, fMulY_ap, mTupRan_ap, mFz_ap, mGh_ap, fIsX_ap, mGhO_ap, ia_none_int, ia_none_bool, ia_none_list, ia_none_tuple, ia_none_str, ia_none_seq, ia_bool_int, ia_bool_bool, ia_bool_list, ia_bool_tuple, ia_bool_str, ia_bool_seq, ia_int_int, ia_int_bool, ia_int_list, ia_int_tuple, ia_int_str, ia_int_seq, ia_str_int, ia_str_bool, ia_str_list, ia_str_tuple, ia_str_str, ia_str_seq, ia_list_int, ia_list_bool, ia_list_list, ia_list_tuple, ia_list_str, ia_list_seq, ia_tuple_int, ia_tuple_bool, ia_tuple_list, ia_tuple_tuple, ia_tuple_str, ia_tuple_seq, mLst_ap, mTup_ap, mYes_ap, sizeLine_v, shaped_int, eqv_int, shaped_bool, eqv_bool, shaped_none, shaped_nilT, shaped_nilL, frz, frzAll, peek, res1, resAll, stoAll, argOf, argsOf, bors, wback, outAt, outsFrom, ownsStay, retv, wipeF, unwipe, sto, isNone, tyD, cY, cMul, cMod, cDiv, cPow, Cell.dat, b2n, frzS, frzL, fzV, atI, ixN, fMulL, k _ _ o.1 o.2, hb]; rfl⟩
      · cases e
        rcases ht with rfl | ⟨_, e, rfl⟩
        · exact ⟨_, by simp [B_same, mVar_ap, mLit_ap, m2_ap, mB_ap, mAndT_ap, mOrT_ap, mNotT_ap, mAndV_ap, mOrV_ap, mNotV_ap, mIfE_ap, mNil_ap, mCons_ap, mDisp_ap, gSet_ap, gsNil_ap, gsCons_ap, gTupD_ap, mSet_ap, mAsg_ap, mPar_ap, mExpr_ap, mRet_ap, mRetN_ap, mNext_ap, mBreak_ap, mCont_ap, mSeq_ap, mIf_ap, iSeq_ap, iRan_ap, iRan2_ap, iEnm_ap, iZp_ap, mFor_ap, mWhile_ap, mCall_ap, mkD_ap, mLc_ap, fI_ap, fAdd_ap, fSub_ap, fMul_ap, fMod_ap, fDiv_ap, fPow_ap, fLt_ap, fLe_ap, fGt_ap, fGe_ap, fIsN_ap, fNotN_ap, fIsB_ap, fIx_ap, fAddX_ap, fSubX_ap, fMulX_ap, m1_ap, fNeg_ap, mB1_ap, fLen_ap, fAbs_ap, fInt_ap, fMin2_ap, fMax2_ap, fList_ap, fTuple_ap, fStr_ap, mMt_ap, mMtZ_ap, fAppend_ap, fInsert_ap, fExtend_ap, fPopAt_ap, mChain_ap, oNone_ap, oSome_ap, mSl_ap, gIx_ap, fInX_ap, fNotInX_ap, mIsi_ap, fEqX_ap, fNeX_ap, fAll_ap, fAny_ap, fSum_ap, fSorted_ap, fBest_ap, fIdx_ap, fRepr_ap, mPermA_ap, fBack_ap, gSplice_ap, mSortSet_ap, fMulY_ap, mTupRan_ap, mFz_ap, mGh_ap, fIsX_ap, mGhO_ap, ia_none_int, ia_none_bool, ia_none_list, ia_none_tuple, ia_none_str, ia_none_seq, ia_bool_int, ia_bool_bool, ia_bool_list, ia_bool_tuple, ia_bool_str, ia_bool_seq, ia_int_int, ia_int_bool, ia_int_list, ia_int_tuple, ia_int_str, ia_int_seq, ia_str_int, ia_str_bool, ia_str_list, ia_str_tuple, ia_str_str, ia_str_seq, ia_list_int, ia_list_bool, ia_list_list, ia_list_tuple, ia_list_str, ia_list_seq, ia_tuple_int, ia_tuple_bool, ia_tuple_list, ia_tuple_tuple, ia_tuple_str, ia_tuple_seq, mLst_ap, mTup_ap, mYes_ap, sizeLine_v, shaped_int, eqv_int, shaped_bool, eqv_bool, shaped_none, shaped_nilT, shaped_nilL, frz, frzAll, peek, res1, resAll, stoAll, argOf, argsOf, bors, wback, outAt, outsFrom, ownsStay, retv, wipeF, unwipe, sto, isNone, tyD, cY, cMul, cMod, cDiv, cPow, Cell.dat, b2n, frzS, frzL, fzV, atI, ixN, fMulL, k _ _ o.1 o.2, hb]; rfl⟩
        · cases e; exact ⟨_, by simp [B_same, mVar_ap, mLit_ap, m2_ap, mB_ap, mAndT_ap, mOrT_ap, mNotT_ap, mAndV_ap, mOrV_ap, mNotV_ap, mIfE_ap, mNil_ap, mCons_ap, mDisp_ap, gSet_ap, gsNil_ap, gsCons_ap, gTupD_ap, mSet_ap, mAsg_ap, mPar_ap, mExpr_ap, mRet_ap, mRetN_ap, mNext_ap, mBreak_ap, mCont_ap, mSeq_ap, mIf_ap, iSeq_ap, iRan_ap, iRan2_ap, iEnm_ap, iZp_ap, mFor_ap, mWhile_ap, mCall_ap, mkD_ap, mLc_ap, fI_ap, fAdd_ap, fSub_ap, fMul_ap, fMod_ap, fDiv_ap, fPow_ap, fLt_ap, fLe_ap, fGt_ap, fGe_ap, fIsN_ap, fNotN_ap, fIsB_ap, fIx_ap, fAddX_ap, fSubX_ap, fMulX_ap, m1_ap, fNeg_ap, mB1_ap, fLen_ap, fAbs_ap, fInt_ap, fMin2_ap, fMax2_ap, fList_ap, fTuple_ap, fStr_ap, mMt_ap, mMtZ_ap, fAppend_ap, fInsert_ap, fExtend_ap, fPopAt_ap, mChain_ap, oNone_ap, oSome_ap, mSl_ap, gIx_ap, fInX_ap, fNotInX_ap, mIsi_ap, fEqX_ap, fNeX_ap, fAll_ap, fAny_ap, fSum_ap, fSorted_ap, fBest_ap, fIdx_ap, fRepr_ap, mPermA_ap, fBack_ap, gSplice_ap, mSortSet_ap, fMulY_ap, mTupRan_ap, mFz_ap, mGh_ap, fIsX_ap, mGhO_ap, ia_none_int, ia_none_bool, ia_none_list, ia_none_tuple, ia_none_str, ia_none_seq, ia_bool_int, ia_bool_bool, ia_bool_list, ia_bool_tuple, ia_bool_str, ia_bool_seq, ia_int_int, ia_int_bool, ia_int_list, ia_int_tuple, ia_int_str, ia_int_seq, ia_str_int, ia_str_bool, ia_str_list, ia_str_tuple, ia_str_str, ia_str_seq, ia_list_int, ia_list_bool, ia_list_list, ia_list_tuple, ia_list_str, ia_list_seq, ia_tuple_int, ia_tuple_bool, ia_tuple_list, ia_tuple_tuple, ia_tuple_str, ia_tuple_seq, mLst_ap, mTup_ap, mYes_ap, sizeLine_v, shaped_int, eqv_int, shaped_bool, eqv_bool, shaped_none, shaped_nilT, shaped_nilL, frz, frzAll, peek, res1, resAll, stoAll, argOf, argsOf, bors, wback, outAt, outsFrom, ownsStay, retv, wipeF, unwipe, sto, isNone, tyD, cY, cMul, cMod, cDiv, cPow, Cell.dat, b2n, frzS, frzL, fzV, atI, ixN, fMulL, k _ _ o.1 o.2, hb]; rfl⟩
    | .tuple ds, o =>
      simp only [Ok] at o
      have k := key ds
      have hb := bools_true (zip2 ds ds)
      rcases hs with rfl | ⟨_, e, rfl⟩
      · rcases ht with rfl | ⟨_, e, rfl⟩
        · exact ⟨_, by simp [B_same, mVar_ap, mLit_ap, m2_ap, mB_ap, mAndT_ap, mOrT_ap, mNotT_ap, mAndV_ap, mOrV_ap, mNotV_ap, mIfE_ap, mNil_ap, mCons_ap, mDisp_ap, gSet_ap, gsNil_ap, gsCons_ap, gTupD_ap, mSet_ap, mAsg_ap, mPar_ap, mExpr_ap, mRet_ap, mRetN_ap, mNext_ap, mBreak_ap, mCont_ap, mSeq_ap, mIf_ap, iSeq_ap, iRan_ap, iRan2_ap, iEnm_ap, iZp_ap, mFor_ap, mWhile_ap, mCall_ap, mkD_ap, mLc_ap, fI_ap, fAdd_ap, fSub_ap, fMul_ap, fMod_ap, fDiv_ap, fPow_ap, fLt_ap, fLe_ap, fGt_ap, fGe_ap, fIsN_ap, fNotN_ap, fIsB_ap, fIx_ap, fAddX_ap, fSubX_ap, fMulX_ap, m1_ap, fNeg_ap, mB1_ap, fLen_ap, fAbs_ap, fInt_ap, fMin2_ap, fMax2_ap, fList_ap, fTuple_ap, fStr_ap, mMt_ap, mMtZ_ap, fAppend_ap, fInsert_ap, fExtend_ap, fPopAt_ap, mChain_ap, oNone_ap, oSome_ap, mSl_ap, gIx_ap, fInX_ap, fNotInX_ap, mIsi_ap, fEqX_ap, fNeX_ap, fAll_ap, fAny_ap, fSum_ap, fSorted_ap, fBest_ap, fIdx_ap, fRepr_ap, mPermA_ap, fBack_ap, gSplice_ap, mSortSet_ap, fMulY_ap, mTupRan_ap, mFz_ap, mGh_ap, fIsX_ap, mGhO_ap, ia_none_int, ia_none_bool, ia_none_list, ia_none_tuple, ia_none_str, ia_none_seq, ia_bool_int, ia_bool_bool, ia_bool_list, ia_bool_tuple, ia_bool_str, ia_bool_seq, ia_int_int, ia_int_bool, ia_int_list, ia_int_tuple, ia_int_str, ia_int_seq, ia_str_int, ia_str_bool, ia_str_list, ia_str_tuple, ia_str_str, ia_str_seq, ia_list_int, ia_list_bool, ia_list_list, ia_list_tuple, ia_list_str, ia_list_seq, ia_tuple_int, ia_tuple_bool, ia_tuple_list, ia_tuple_tuple, ia_tuple_str, ia_tuple_seq, mLst_ap, mTup_ap, mYes_ap, sizeLine_v, shaped_int, eqv_int, shaped_bool, eqv_bool, shaped_none, shaped_nilT, shaped_nilL, frz, frzAll, peek, res1, resAll, stoAll, argOf, argsOf, bors, wback, outAt, outsFrom, ownsStay, retv, wipeF, unwipe, sto, isNone, tyD, cY, cMul, cMod, cDiv, cPow, Cell.dat, b2n, frzS, frzL, fzV, atI, ixN, fMulL, k _ _ o.1 o.2, hb]; rfl⟩
        · cases e
      · cases e
/-! tuples turned to lists -/
mutual
def lsD : PyData → PyData
  | .list ds => .list (lsA ds)
  | .tuple ds => .list (lsA ds)
  | .none => .none
  | .bool b => .bool b
  | .int i => .int i
  | .str s => .str s
  | .dict e => .dict e
def lsA : List PyData → List PyData
  | [] => []
  | d :: ds => lsD d :: lsA ds
end
theorem lsA_map : ∀ ds : List PyData, lsA ds = ds.map lsD
  | [] => by simp [lsA]
  | d :: ds => by simp [lsA, lsA_map ds]
def SpLists (l b h : Nat) (D : Dm) : Prop := ∀ (d : PyData), Ok l b h d → ∃ v, D [.dat d] = some (v, [.dat d]) ∧ (v = .dat (lsD d) ∨ ∃ ds, v = .fre (.lst ds) ∧ lsD d = .list ds)
theorem lists_0 {T : Dm} {l b : Nat} : SpLists l b 0 (B_lists T) := by
  intro d o
  match d, o with
  | .none, _ => exact ⟨.dat .none, by simp [B_lists, mVar_ap, mLit_ap, m2_ap, mB_ap, mAndT_ap, mOrT_ap, mNotT_ap, mAndV_ap, mOrV_ap, mNotV_ap, mIfE_ap, mNil_ap, mCons_ap, mDisp_ap, gSet_ap, gsNil_ap, gsCons_ap, gTupD_ap, mSet_ap, mAsg_ap, mPar_ap, mExpr_ap, mRet_ap, mRetN_ap, mNext_ap, mBreak_ap, mCont_ap, mSeq_ap, mIf_ap, iSeq_ap, iRan_ap, iRan2_ap, iEnm_ap, iZp_ap, mFor_ap, mWhile_ap, mCall_ap, mkD_ap, mLc_ap, fI_ap, fAdd_ap, fSub_ap, fMul_ap, fMod_ap, fDiv_ap, fPow_ap, fLt_ap, fLe_ap, fGt_ap, fGe_ap, fIsN_ap, fNotN_ap, fIsB_ap, fIx_ap, fAddX_ap, fSubX_ap, fMulX_ap, m1_ap, fNeg_ap, mB1_ap, fLen_ap, fAbs_ap, fInt_ap, fMin2_ap, fMax2_ap, fList_ap, fTuple_ap, fStr_ap, mMt_ap, mMtZ_ap, fAppend_ap, fInsert_ap, fExtend_ap, fPopAt_ap, mChain_ap, oNone_ap, oSome_ap, mSl_ap, gIx_ap, fInX_ap, fNotInX_ap, mIsi_ap, fEqX_ap, fNeX_ap, fAll_ap, fAny_ap, fSum_ap, fSorted_ap, fBest_ap, fIdx_ap, fRepr_ap, mPermA_ap, fBack_ap, gSplice_ap, mSortSet_ap, fMulY_ap, mTupRan_ap, mFz_ap, mGh_ap, fIsX_ap, mGhO_ap, ia_none_int, ia_none_bool, ia_none_list, ia_none_tuple, ia_none_str, ia_none_seq, ia_bool_int, ia_bool_bool, ia_bool_list, ia_bool_tuple, ia_bool_str, ia_bool_seq, ia_int_int, ia_int_bool, ia_int_list, ia_int_tuple, ia_int_str, ia_int_seq, ia_str_int, ia_str_bool, ia_str_list, ia_str_tuple, ia_str_str, ia_str_seq, ia_list_int, ia_list_bool, ia_list_list, ia_list_tuple, ia_list_str, ia_list_seq, ia_tuple_int, ia_tuple_bool, ia_tuple_list, ia_tuple_tuple, ia_tuple_str, ia_tuple_seq, mLst_ap, mTup_ap, mYes_ap, sizeLine_v, shaped_int, eqv_int, shaped_bool, eqv_bool, shaped_none, shaped_nilT, shaped_nilL, frz, frzAll, peek, res1, resAll, stoAll, argOf, argsOf, bors, wback, outAt, outsFrom, ownsStay, retv, wipeF, unwipe, sto, isNone, tyD, cY, cMul, cMod, cDiv, cPow, Cell.dat, b2n, frzS, frzL, fzV, atI, ixN, fMulL], .inl (by simp [lsD])⟩
  | .bool t, _ => exact ⟨.dat (.bool t), by simp [B_lists, mVar_ap, mLit_ap, m2_ap, mB_ap, mAndT_ap, mOrT_ap, mNotT_ap, mAndV_ap, mOrV_ap, mNotV_ap, mIfE_ap, mNil_ap, mCons_ap, mDisp_ap, gSet_ap, gsNil_ap, gsCons_ap, gTupD_ap, mSet_ap, mAsg_ap, mPar_ap, mExpr_ap, mRet_ap, mRetN_ap, mNext_ap, mBreak_ap, mCont_ap, mSeq_ap, mIf_ap, iSeq_ap, iRan_ap, iRan2_ap, iEnm_ap, iZp_ap, mFor_ap, mWhile_ap, mCall_ap, mkD_ap, mLc_ap, fI_ap, fAdd_ap, fSub_ap, fMul_ap, fMod_ap, fDiv_ap, fPow_ap, fLt_ap, fLe_ap, fGt_ap, fGe_ap, fIsN_ap, fNotN_ap, fIsB_ap, fIx_ap, fAddX_ap, fSubX_ap, fMulX_ap, m1_ap, fNeg_ap, mB1_ap, fLen_ap, fAbs_ap, fInt_ap, fMin2_ap, fMax2_ap, fList_ap, fTuple_ap, fStr_ap, mMt_ap, mMtZ_ap, fAppend_ap, fInsert_ap, fExtend_ap, fPopAt_ap, mChain_ap, oNone_ap, oSome_ap, mSl_ap, gIx_ap, fInX_ap, fNotInX_ap, mIsi_ap, fEqX_ap, fNeX_ap, fAll_ap, fAny_ap, fSum_ap, fSorted_ap, fBest_ap, fIdx_ap, fRepr_ap, mPermA_ap, fBack_ap, gSplice_ap, mSortSet_ap, fMulY_ap, mTupRan_ap, mFz_ap, mGh_ap, fIsX_ap, mGhO_ap, ia_none_int, ia_none_bool, ia_none_list, ia_none_tuple, ia_none_str, ia_none_seq, ia_bool_int, ia_bool_bool, ia_bool_list, ia_bool_tuple, ia_bool_str, ia_bool_seq, ia_int_int, ia_int_bool, ia_int_list, ia_int_tuple, ia_int_str, ia_int_seq, ia_str_int, ia_str_bool, ia_str_list, ia_str_tuple, ia_str_str, ia_str_seq, ia_list_int, ia_list_bool, ia_list_list, ia_list_tuple, ia_list_str, ia_list_seq, ia_tuple_int, ia_tuple_bool, ia_tuple_list, ia_tuple_tuple, ia_tuple_str, ia_tuple_seq, mLst_ap, mTup_ap, mYes_ap, sizeLine_v, shaped_int, eqv_int, shaped_bool, eqv_bool, shaped_none, shaped_nilT, shaped_nilL, frz, frzAll, peek, res1, resAll, stoAll, argOf, argsOf, bors, wback, outAt, outsFrom, ownsStay, retv, wipeF, unwipe, sto, isNone, tyD, cY, cMul, cMod, cDiv, cPow, Cell.dat, b2n, frzS, frzL, fzV, atI, ixN, fMulL], .inl (by simp [lsD])⟩
  | .int t, _ => exact ⟨.dat (.int t), by simp [B_lists, mVar_ap, mLit_ap, m2_ap, mB_ap, mAndT_ap, mOrT_ap, mNotT_ap, mAndV_ap, mOrV_ap, mNotV_ap, mIfE_ap, mNil_ap, mCons_ap, mDisp_ap, gSet_ap, gsNil_ap, gsCons_ap, gTupD_ap, mSet_ap, mAsg_ap, mPar_ap, mExpr_ap, mRet_ap, mRetN_ap, mNext_ap, mBreak_ap, mCont_ap, mSeq_ap, mIf_ap, iSeq_ap, iRan_ap, iRan2_ap, iEnm_ap, iZp_ap, mFor_ap, mWhile_ap, mCall_ap, mkD_ap, mLc_ap, fI_ap, fAdd_ap, fSub_ap, fMul_ap, fMod_ap, fDiv_ap, fPow_ap, fLt_ap, fLe_ap, fGt_ap, fGe_ap, fIsN_ap, fNotN_ap, fIsB_ap, fIx_ap, fAddX_ap, fSubX_ap, fMulX_ap, m1_ap, fNeg_ap, mB1_ap, fLen_ap, fAbs_ap, fInt_ap, fMin2_ap, fMax2_ap, fList_ap, fTuple_ap, fStr_ap, mMt_ap, mMtZ_ap, fAppend_ap, fInsert_ap, fExtend_ap, fPopAt_ap, mChain_ap, oNone_ap, oSome_ap, mSl_ap, gIx_ap, fInX_ap, fNotInX_ap, mIsi_ap, fEqX_ap, fNeX_ap, fAll_ap, fAny_ap, fSum_ap, fSorted_ap, fBest_ap, fIdx_ap, fRepr_ap, mPermA_ap, fBack_ap, gSplice_ap, mSortSet_ap, fMulY_ap, mTupRan_ap, mFz_ap, mGh_ap, fIsX_ap, mGhO_ap, ia_none_int, ia_none_bool, ia_none_list, ia_none_tuple, ia_none_str, ia_none_seq, ia_bool_int, ia_bool_bool, ia_bool_list, ia_bool_tuple, ia_bool_str, ia_bool_seq, ia_int_int, ia_int_bool, ia_int_list, ia_int_tuple, ia_int_str, ia_int_seq, ia_str_int, ia_str_bool, ia_str_list, ia_str_tuple, ia_str_str, ia_str_seq, ia_list_int, ia_list_bool, ia_list_list, ia_list_tuple, ia_list_str, ia_list_seq, ia_tuple_int, ia_tuple_bool, ia_tuple_list, ia_tuple_tuple, ia_tuple_str, ia_tuple_seq, mLst_ap, mTup_ap, mYes_ap, sizeLine_v, shaped_int, eqv_int, shaped_bool, eqv_bool, shaped_none, shaped_nilT, shaped_nilL, frz, frzAll, peek, res1, resAll, stoAll, argOf, argsOf, bors, wback, outAt, outsFrom, ownsStay, retv, wipeF, unwipe, sto, isNone, tyD, cY, cMul, cMod, cDiv, cPow, Cell.dat, b2n, frzS, frzL, fzV, atI, ixN, fMulL], .inl (by simp [lsD])⟩
  | .str t, _ => exact ⟨.dat (.str t), by simp [B_lists, mVar_ap, mLit_ap, m2_ap, mB_ap, mAndT_ap, mOrT_ap, mNotT_ap, mAndV_ap, mOrV_ap, mNotV_ap, mIfE_ap, mNil_ap, mCons_ap, mDisp_ap, gSet_ap, gsNil_ap, gsCons_ap, gTupD_ap, mSet_ap, mAsg_ap, mPar_ap, mExpr_ap, mRet_ap, mRetN_ap, mNext_ap, mBreak_ap, mCont_ap, mSeq_ap, mIf_ap, iSeq_ap, iRan_ap, iRan2_ap, iEnm_ap, iZp_ap, mFor_ap, mWhile_ap, mCall_ap, mkD_ap, mLc_ap, fI_ap, fAdd_ap, fSub_ap, fMul_ap, fMod_ap, fDiv_ap, fPow_ap, fLt_ap, fLe_ap, fGt_ap, fGe_ap, fIsN_ap, fNotN_ap, fIsB_ap, fIx_ap, fAddX_ap, fSubX_ap, fMulX_ap, m1_ap, fNeg_ap, mB1_ap, fLen_ap, fAbs_ap, fInt_ap, fMin2_ap, fMax2_ap, fList_ap, fTuple_ap, fStr_ap, mMt_ap, mMtZ_ap, fAppend_ap, fInsert_ap, fExtend_ap, fPopAt_ap, mChain_ap, oNone_ap, oSome_ap, mSl_ap, gIx_ap, fInX_ap, fNotInX_ap, mIsi_ap, fEqX_ap, fNeX_ap, fAll_ap, fAny_ap, fSum_ap, fSorted_ap, fBest_ap, fIdx_ap, fRepr_ap, mPermA_ap, fBack_ap, gSplice_ap, mSortSet_ap, fMulY_ap, mTupRan_ap, mFz_ap, mGh_ap, fIsX_ap, mGhO_ap, ia_none_int, ia_none_bool, ia_none_list, ia_none_tuple, ia_none_str, ia_none_seq, ia_bool_int, ia_bool_bool, ia_bool_list, ia_bool_tuple, ia_bool_str, ia_bool_seq, ia_int_int, ia_int_bool, ia_int_list, ia_int_tuple, ia_int_str, ia_int_seq, ia_str_int, ia_str_bool, ia_str_list, ia_str_tuple, ia_str_str, ia_str_seq, ia_list_int, ia_list_bool, ia_list_list, ia_list_tuple, ia_list_str, ia_list_seq, ia_tuple_int, ia_tuple_bool, ia_tuple_list, ia_tuple_tuple, ia_tuple_str, ia_tuple_seq, mLst_ap, mTup_ap, mYes_ap, sizeLine_v, shaped_int, eqv_int, shaped_bool, eqv_bool, shaped_none, shaped_nilT, shaped_nilL, frz, frzAll, peek, res1, resAll, stoAll, argOf, argsOf, bors, wback, outAt, outsFrom, ownsStay, retv, wipeF, unwipe, sto, isNone, tyD, cY, cMul, cMod, cDiv, cPow, Cell.dat, b2n, frzS, frzL, fzV, atI, ixN, fMulL], .inl (by simp [lsD])⟩
  | .dict _, o => simp [Ok] at o
  | .list ds, o => simp [Ok] at o
  | .tuple ds, o => simp [Ok] at o
theorem lists_S {T : Dm} {l b h : Nat} (hl : l ≤ 1000000) (hT : SpLists l b h T) : SpLists l b (h + 1) (B_lists T) := by
  intro d o
  have key : ∀ (ds : List PyData) (a : Option S0), ds.length ≤ l → (∀ x ∈ ds, Ok l b h x) → compM (gSet 1) mYes (mCall T (mFz (mCons (mVar 1) mNil))) [1] ds [a, none] [] = some (ds.map lsD, [a, none]) := by
    intro ds a h1 h2
    refine comp_all [a, none] lsD ds (fun x m => ?_) (by rw [sizeLine_v]; omega)
    obtain ⟨v, e, hv⟩ := hT x (h2 x m)
    refine ⟨[a, some (.dat x)], v, [a, some (.dat x)], [a, some (.dat x)], by simp [mVar_ap, mLit_ap, m2_ap, mB_ap, mAndT_ap, mOrT_ap, mNotT_ap, mAndV_ap, mOrV_ap, mNotV_ap, mIfE_ap, mNil_ap, mCons_ap, mDisp_ap, gSet_ap, gsNil_ap, gsCons_ap, gTupD_ap, mSet_ap, mAsg_ap, mPar_ap, mExpr_ap, mRet_ap, mRetN_ap, mNext_ap, mBreak_ap, mCont_ap, mSeq_ap, mIf_ap, iSeq_ap, iRan_ap, iRan2_ap, iEnm_ap, iZp_ap, mFor_ap, mWhile_ap, mCall_ap, mkD_ap, mLc_ap, fI_ap, fAdd_ap, fSub_ap, fMul_ap, fMod_ap, fDiv_ap, fPow_ap, fLt_ap, fLe_ap, fGt_ap, fGe_ap, fIsN_ap, fNotN_ap, fIsB_ap, fIx_ap, fAddX_ap, fSubX_ap, fMulX_ap, m1_ap, fNeg_ap, mB1_ap, fLen_ap, fAbs_ap, fInt_ap, fMin2_ap, fMax2_ap, fList_ap, fTuple_ap, fStr_ap, mMt_ap, mMtZ_ap, fAppend_ap, fInsert_ap, fExtend_ap, fPopAt_ap, mChain_ap, oNone_ap, oSome_ap, mSl_ap, gIx_ap, fInX_ap, fNotInX_ap, mIsi_ap, fEqX_ap, fNeX_ap, fAll_ap, fAny_ap, fSum_ap, fSorted_ap, fBest_ap, fIdx_ap, fRepr_ap, mPermA_ap, fBack_ap, gSplice_ap, mSortSet_ap, fMulY_ap, mTupRan_ap, mFz_ap, mGh_ap, fIsX_ap, mGhO_ap, ia_none_int, ia_none_bool, ia_none_list, ia_none_tuple, ia_none_str, ia_none_seq, ia_bool_int, ia_bool_bool, ia_bool_list, ia_bool_tuple, ia_bool_str, ia_bool_seq, ia_int_int, ia_int_bool, ia_int_list, ia_int_tuple, ia_int_str, ia_int_seq, ia_str_int, ia_str_bool, ia_str_list, ia_str_tuple, ia_str_str, ia_str_seq, ia_list_int, ia_list_bool, ia_list_list, ia_list_tuple, ia_list_str, ia_list_seq, ia_tuple_int, ia_tuple_bool, ia_tuple_list, ia_tuple_tuple, ia_tuple_str, ia_tuple_seq, mLst_ap, mTup_ap, mYes_ap, sizeLine_v, shaped_int, eqv_int, shaped_bool, eqv_bool, shaped_none, shaped_nilT, shaped_nilL, frz, frzAll, peek, res1, resAll, stoAll, argOf, argsOf, bors, wback, outAt, outsFrom, ownsStay, retv, wipeF, unwipe, sto, isNone, tyD, cY, cMul, cMod, cDiv, cPow, Cell.dat, b2n, frzS, frzL, fzV, atI, ixN, fMulL], ?_, ?_, by simp [wipeF]⟩
    · rcases hv with rfl | ⟨ds, rfl, _⟩
      · simp [mVar_ap, mLit_ap, m2_ap, mB_ap, mAndT_ap, mOrT_ap, mNotT_ap, mAndV_ap, mOrV_ap, mNotV_ap, mIfE_ap, mNil_ap, mCons_ap, mDisp_ap, gSet_ap, gsNil_ap, gsCons_ap, gTupD_ap, mSet_ap, mAsg_ap, mPar_ap, mExpr_ap, mRet_ap, mRetN_ap, mNext_ap, mBreak_ap, mCont_ap, mSeq_ap, mIf_ap, iSeq_ap, iRan_ap, iRan2_ap, iEnm_ap, iZp_ap, mFor_ap, mWhile_ap, mCall_ap, mkD_ap, mLc_ap, fI_ap, fAdd_ap, fSub_ap, fMul_ap, fMod_ap, fDiv_ap, fPow_ap, fLt_ap, fLe_ap, fGt_ap, fGe_ap, fIsN_ap, fNotN_ap, fIsB_ap, fIx_ap, fAddX_ap, fSubX_ap, fMulX_ap, m1_ap, fNeg_ap, mB1_ap, fLen_ap, fAbs_ap, fInt_ap, fMin2_ap, fMax2_ap, fList_ap, fTuple_ap, fStr_ap, mMt_ap, mMtZ_ap, fAppend_ap, fInsert_ap, fExtend_ap, fPopAt_ap, mChain_ap, oNone_ap, oSome_ap, mSl_ap, gIx_ap, fInX_ap, fNotInX_ap, mIsi_ap, fEqX_ap, fNeX_ap, fAll_ap, fAny_ap, fSum_ap, fSorted_ap, fBest_ap, fIdx_ap, fRepr_ap, mPermA_ap, fBack_ap, gSplice_ap, mSortSet_ap, fMulY_ap, mTupRan_ap, mFz_ap, mGh_ap, fIsX_ap, mGhO_ap, ia_none_int, ia_none_bool, ia_none_list, ia_none_tuple, ia_none_str, ia_none_seq, ia_bool_int, ia_bool_bool, ia_bool_list, ia_bool_tuple, ia_bool_str, ia_bool_seq, ia_int_int, ia_int_bool, ia_int_list, ia_int_tuple, ia_int_str, ia_int_seq, ia_str_int, ia_str_bool, ia_str_list, ia_str_tuple, ia_str_str, ia_str_seq, ia_list_int, ia_list_bool, ia_list_list, ia_list_tuple, ia_list_str, ia_list_seq, ia_tuple_int, ia_tuple_bool, ia_tuple_list, ia_tuple_tuple, ia_tuple_str, ia_tuple_seq, mLst_ap, mTup_ap, mYes_ap, sizeLine_v, shaped_int, eqv_int, shaped_bool, eqv_bool, shaped_none, shaped_nilT, shaped_nilL, frz, frzAll, peek, res1, resAll, stoAll, argOf, argsOf, bors, wback, outAt, outsFrom, ownsStay, retv, wipeF, unwipe, sto, isNone, tyD, cY, cMul, cMod, cDiv, cPow, Cell.dat, b2n, frzS, frzL, fzV, atI, ixN, fMulL, e]
      · simp [mVar_ap, mLit_ap, m2_ap, mB_ap, mAndT_ap, mOrT_ap, mNotT_ap, mAndV_ap, mOrV_ap, mNotV_ap, mIfE_ap, mNil_ap, mCons_ap, mDisp_ap, gSet_ap, gsNil_ap, gsCons_ap, gTupD_ap, mSet_ap, mAsg_ap, mPar_ap, mExpr_ap, mRet_ap, mRetN_ap, mNext_ap, mBreak_ap, mCont_ap, mSeq_ap, mIf_ap, iSeq_ap, iRan_ap, iRan2_ap, iEnm_ap, iZp_ap, mFor_ap, mWhile_ap, mCall_ap, mkD_ap, mLc_ap, fI_ap, fAdd_ap, fSub_ap, fMul_ap, fMod_ap, fDiv_ap, fPow_ap, fLt_ap, fLe_ap, fGt_ap, fGe_ap, fIsN_ap, fNotN_ap, fIsB_ap, fIx_ap, fAddX_ap, fSubX_ap, fMulX_ap, m1_ap, fNeg_ap, mB1_ap, fLen_ap, fAbs_ap, fInt_ap, fMin2_ap, fMax2_ap, fList_ap, fTuple_ap, fStr_ap, mMt_ap, mMtZ_ap, fAppend_ap, fInsert_ap, fExtend_ap, fPopAt_ap, mChain_ap, oNone_ap, oSome_ap, mSl_ap, gIx_ap, fInX_ap, fNotInX_ap, mIsi_ap, fEqX_ap, fNeX_ap, fAll_ap, fAny_ap, fSum_ap, fSorted_ap, fBest_ap, fIdx_ap, fRepr_ap, mPermA_ap, fBack_ap, gSplice_ap, mSortSet_ap, fMulY_ap, mTupRan_ap, mFz_ap, mGh_ap, fIsX_ap, mGhO_ap, ia_none_int, ia_none_bool, ia_none_list, ia_none_tuple, ia_none_str, ia_none_seq, ia_bool_int, ia_bool_bool, ia_bool_list, ia_bool_tuple, ia_bool_str, ia_bool_seq, ia_int_int, ia_int_bool, ia_int_list, ia_int_tuple, ia_int_str, ia_int_seq, ia_str_int, ia_str_bool, ia_str_list, ia_str_tuple, ia_str_str, ia_str_seq, ia_list_int, ia_list_bool, ia_list_list, ia_list_tuple, ia_list_str, ia_list_seq, ia_tuple_int, ia_tuple_bool, ia_tuple_list, ia_tuple_tuple, ia_tuple_str, ia_tuple_seq, mLst_ap, mTup_ap, mYes_ap, sizeLine_v, shaped_int, eqv_int, shaped_bool, eqv_bool, shaped_none, shaped_nilT, shaped_nilL, frz, frzAll, peek, res1, resAll, stoAll, argOf, argsOf, bors, wback, outAt, outsFrom, ownsStay, retv, wipeF, unwipe, sto, isNone, tyD, cY, cMul, cMod, cDiv, cPow, Cell.dat, b2n, frzS, frzL, fzV, atI, ixN, fMulL, e]
    · rcases hv with rfl | ⟨ds, rfl, e2⟩
      · simp [frz]
      · simp [frz, Cell.dat, e2]
  match d, o with
  | .none, _ => exact ⟨.dat .none, by simp [B_lists, mVar_ap, mLit_ap, m2_ap, mB_ap, mAndT_ap, mOrT_ap, mNotT_ap, mAndV_ap, mOrV_ap, mNotV_ap, mIfE_ap, mNil_ap, mCons_ap, mDisp_ap, gSet_ap, gsNil_ap, gsCons_ap, gTupD_ap, mSet_ap, mAsg_ap, mPar_ap, mExpr_ap, mRet_ap, mRetN_ap, mNext_ap, mBreak_ap, mCont_ap, mSeq_ap, mIf_ap, iSeq_ap, iRan_ap, iRan2_ap, iEnm_ap, iZp_ap, mFor_ap, mWhile_ap, mCall_ap, mkD_ap, mLc_ap, fI_ap, fAdd_ap, fSub_ap, fMul_ap, fMod_ap, fDiv_ap, fPow_ap, fLt_ap, fLe_ap, fGt_ap, fGe_ap, fIsN_ap, fNotN_ap, fIsB_ap, fIx_ap, fAddX_ap, fSubX_ap, fMulX_ap, m1_ap, fNeg_ap, mB1_ap, fLen_ap, fAbs_ap, fInt_ap, fMin2_ap, fMax2_ap, fList_ap, fTuple_ap, fStr_ap, mMt_ap, mMtZ_ap, fAppend_ap, fInsert_ap, fExtend_ap, fPopAt_ap, mChain_ap, oNone_ap, oSome_ap, mSl_ap, gIx_ap, fInX_ap, fNotInX_ap, mIsi_ap, fEqX_ap, fNeX_ap, fAll_ap, fAny_ap, fSum_ap, fSorted_ap, fBest_ap, fIdx_ap, fRepr_ap, mPermA_ap, fBack_ap, gSplice_ap, mSortSet_ap, fMulY_ap, mTupRan_ap, mFz_ap, mGh_ap, fIsX_ap, mGhO_ap, ia_none_int, ia_none_bool, ia_none_list, ia_none_tuple, ia_none_str, ia_none_seq, ia_bool_int, ia_bool_bool, ia_bool_list, ia_bool_tuple, ia_bool_str, ia_bool_seq, ia_int_int, ia_int_bool, ia_int_list, ia_int_tuple, ia_int_str, ia_int_seq, ia_str_int, ia_str_bool, ia_str_list, ia_str_tuple, ia_str_str, ia_str_seq, ia_list_int, ia_list_bool, ia_list_list, ia_list_tuple, ia_list_str, ia_list_seq, ia_tuple_int, ia_tuple_bool, ia_tuple_list, ia_tuple_tuple, ia_tuple_str, ia_tuple_seq, mLst_ap, mTup_ap, mYes_ap, sizeLine_v, shaped_int, eqv_int, shaped_bool, eqv_bool, shaped_none, shaped_nilT, shaped_nilL, frz, frzAll, peek, res1, resAll, stoAll, argOf, argsOf, bors, wback, outAt, outsFrom, ownsStay, retv, wipeF, unwipe, sto, isNone, tyD, cY, cMul, cMod, cDiv, cPow, Cell.dat, b2n, frzS, frzL, fzV, atI, ixN, fMulL], .inl (by simp [lsD])⟩
  | .bool t, _ => exact ⟨.dat (.bool t), by simp [B_lists, mVar_ap, mLit_ap, m2_ap, mB_ap, mAndT_ap, mOrT_ap, mNotT_ap, mAndV_ap, mOrV_ap, mNotV_ap, mIfE_ap, mNil_ap, mCons_ap, mDisp_ap, gSet_ap, gsNil_ap, gsCons_ap, gTupD_ap, mSet_ap, mAsg_ap, mPar_ap, mExpr_ap, mRet_ap, mRetN_ap, mNext_ap, mBreak_ap, mCont_ap, mSeq_ap, mIf_ap, iSeq_ap, iRan_ap, iRan2_ap, iEnm_ap, iZp_ap, mFor_ap, mWhile_ap, mCall_ap, mkD_ap, mLc_ap, fI_ap, fAdd_ap, fSub_ap, fMul_ap, fMod_ap, fDiv_ap, fPow_ap, fLt_ap, fLe_ap, fGt_ap, fGe_ap, fIsN_ap, fNotN_ap, fIsB_ap, fIx_ap, fAddX_ap, fSubX_ap, fMulX_ap, m1_ap, fNeg_ap, mB1_ap, fLen_ap, fAbs_ap, fInt_ap, fMin2_ap, fMax2_ap, fList_ap, fTuple_ap, fStr_ap, mMt_ap, mMtZ_ap, fAppend_ap, fInsert_ap, fExtend_ap, fPopAt_ap, mChain_ap, oNone_ap, oSome_ap, mSl_ap, gIx_ap, fInX_ap, fNotInX_ap, mIsi_ap, fEqX_ap, fNeX_ap, fAll_ap, fAny_ap, fSum_ap, fSorted_ap, fBest_ap, fIdx_ap, fRepr_ap, mPermA_ap, fBack_ap, gSplice_ap, mSortSet_ap, fMulY_ap, mTupRan_ap, mFz_ap, mGh_ap, fIsX_ap, mGhO_ap, ia_none_int, ia_none_bool, ia_none_list, ia_none_tuple, ia_none_str, ia_none_seq, ia_bool_int, ia_bool_bool, ia_bool_list, ia_bool_tuple, ia_bool_str, ia_bool_seq, ia_int_int, ia_int_bool, ia_int_list, ia_int_tuple, ia_int_str, ia_int_seq, ia_str_int, ia_str_bool, ia_str_list, ia_str_tuple, ia_str_str, ia_str_seq, ia_list_int, ia_list_bool, ia_list_list, ia_list_tuple, ia_list_str, ia_list_seq, ia_tuple_int, ia_tuple_bool, ia_tuple_list, ia_tuple_tuple, ia_tuple_str, ia_tuple_seq, mLst_ap, mTup_ap, mYes_ap, sizeLine_v, shaped_int, eqv_int, shaped_bool, eqv_bool, shaped_none, shaped_nilT, shaped_nilL, frz, frzAll, peek, res1, resAll, stoAll, argOf, argsOf, bors, wback, outAt, outsFrom, ownsStay, retv, wipeF, unwipe, sto, isNone, tyD, cY, cMul, cMod, cDiv, cPow, Cell.dat, b2n, frzS, frzL, fzV, atI, ixN, fMulL], .inl (by simp [lsD])⟩
  | .int t, _ => exact ⟨.dat (.int t), by simp [B_lists, mVar_ap, mLit_ap, m2_ap, mB_ap, mAndT_ap, mOrT_ap, mNotT_ap, mAndV_ap, mOrV_ap, mNotV_ap, mIfE_ap, mNil_ap, mCons_ap, mDisp_ap, gSet_ap, gsNil_ap, gsCons_ap, gTupD_ap, mSet_ap, mAsg_ap, mPar_ap, mExpr_ap, mRet_ap, mRetN_ap, mNext_ap, mBreak_ap, mCont_ap, mSeq_ap, mIf_ap, iSeq_ap, iRan_ap, iRan2_ap, iEnm_ap, iZp_ap, mFor_ap, mWhile_ap, mCall_ap, mkD_ap, mLc_ap, fI_ap, fAdd_ap, fSub_ap, fMul_ap, fMod_ap, fDiv_ap, fPow_ap, fLt_ap, fLe_ap, fGt_ap, fGe_ap, fIsN_ap, fNotN_ap, fIsB_ap, fIx_ap, fAddX_ap, fSubX_ap, fMulX_ap, m1_ap, fNeg_ap, mB1_ap, fLen_ap, fAbs_ap, fInt_ap, fMin2_ap, fMax2_ap, fList_ap, fTuple_ap, fStr_ap, mMt_ap, mMtZ_ap, fAppend_ap, fInsert_ap, fExtend_ap, fPopAt_ap, mChain_ap, oNone_ap, oSome_ap, mSl_ap, gIx_ap, fInX_ap, fNotInX_ap, mIsi_ap, fEqX_ap, fNeX_ap, fAll_ap, fAny_ap, fSum_ap, fSorted_ap, fBest_ap, fIdx_ap, fRepr_ap, mPermA_ap, fBack_ap, gSplice_ap, mSortSet_ap, fMulY_ap, mTupRan_ap, mFz_ap, mGh_ap, fIsX_ap, mGhO_ap, ia_none_int, ia_none_bool, ia_none_list, ia_none_tuple, ia_none_str, ia_none_seq, ia_bool_int, ia_bool_bool, ia_bool_list, ia_bool_tuple, ia_bool_str, ia_bool_seq, ia_int_int, ia_int_bool, ia_int_list, ia_int_tuple, ia_int_str, ia_int_seq, ia_str_int, ia_str_bool, ia_str_list, ia_str_tuple, ia_str_str, ia_str_seq, ia_list_int, ia_list_bool, ia_list_list, ia_list_tuple, ia_list_str, ia_list_seq, ia_tuple_int, ia_tuple_bool, ia_tuple_list, ia_tuple_tuple, ia_tuple_str, ia_tuple_seq, mLst_ap, mTup_ap, mYes_ap, sizeLine_v, shaped_int, eqv_int, shaped_bool, eqv_bool, shaped_none, shaped_nilT, shaped_nilL, frz, frzAll, peek, res1, resAll, stoAll, argOf, argsOf, bors, wback, outAt, outsFrom, ownsStay, retv, wipeF, unwipe, sto, isNone, tyD, cY, cMul, cMod, cDiv, cPow, Cell.dat, b2n, frzS, frzL, fzV, atI, ixN, fMulL], .inl (by simp [lsD])⟩
  | .str t, _ => exact ⟨.dat (.str t), by simp [B_lists, mVar_ap, mLit_ap, m2_ap, mB_ap, mAndT_ap, mOrT_ap, mNotT_ap, mAndV_ap, mOrV_ap, mNotV_ap, mIfE_ap, mNil_ap, mCons_ap, mDisp_ap, gSet_ap, gsNil_ap, gsCons_ap, gTupD_ap, mSet_ap, mAsg_ap, mPar_ap, mExpr_ap, mRet_ap, mRetN_ap, mNext_ap, mBreak_ap, mCont_ap, mSeq_ap, mIf_ap, iSeq_ap, iRan_ap, iRan2_ap, iEnm_ap, iZp_ap, mFor_ap, mWhile_ap, mCall_ap, mkD_ap, mLc_ap, fI_ap, fAdd_ap, fSub_ap, fMul_ap, fMod_ap, fDiv_ap, fPow_ap, fLt_ap, fLe_ap, fGt_ap, fGe_ap, fIsN_ap, fNotN_ap, fIsB_ap, fIx_ap, fAddX_ap, fSubX_ap, fMulX_ap, m1_ap, fNeg_ap, mB1_ap, fLen_ap, fAbs_ap, fInt_ap, fMin2_ap, fMax2_ap, fList_ap, fTuple_ap, fStr_ap, mMt_ap, mMtZ_ap, fAppend_ap, fInsert_ap, fExtend_ap, fPopAt_ap, mChain_ap, oNone_ap, oSome_ap, mSl_ap, gIx_ap, fInX_ap, fNotInX_ap, mIsi_ap, fEqX_ap, fNeX_ap, fAll_ap, fAny_ap, fSum_ap, fSorted_ap, fBest_ap, fIdx_ap, fRepr_ap, mPermA_ap, fBack_ap, gSplice_ap, mSortSet_ap, fMulY_ap, mTupRan_ap, mFz_ap, mGh_ap, fIsX_ap, mGhO_ap, ia_none_int, ia_none_bool, ia_none_list, ia_none_tuple, ia_none_str, ia_none_seq, ia_bool_int, ia_bool_bool, ia_bool_list, ia_bool_tuple, ia_bool_str, ia_bool_seq, ia_int_int, ia_int_bool, ia_int_list, ia_int_tuple, ia_int_str, ia_int_seq, ia_str_int, ia_str_bool, ia_str_list, ia_str_tuple, ia_str_str, ia_str_seq, ia_list_int, ia_list_bool, ia_list_list, ia_list_tuple, ia_list_str, ia_list_seq, ia_tuple_int, ia_tuple_bool, ia_tuple_list, ia_tuple_tuple, ia_tuple_str, ia_tuple_seq, mLst_ap, mTup_ap, mYes_ap, sizeLine_v, shaped_int, eqv_int, shaped_bool, eqv_bool, shaped_none, shaped_nilT, shaped_nilL, frz, frzAll, peek, res1, resAll, stoAll, argOf, argsOf, bors, wback, outAt, outsFrom, ownsStay, retv, wipeF, unwipe, sto, isNone, tyD, cY, cMul, cMod, cDiv, cPow, Cell.dat, b2n, frzS, frzL, fzV, atI, ixN, fMulL], .inl (by simp [lsD])⟩
  | .dict _, o => simp [Ok] at o
  | .list ds, o =>
    simp only [Ok] at o
    exact ⟨.fre (.lst (ds.map lsD)), by simp [B_lists, mVar_ap, mLit_ap, m2_ap, mB_ap, mAndT_ap, mOrT_ap, mNotT_ap, mAndV_ap, mOrV_ap, mNotV_ap, mIfE_ap, mNil_ap, mCons_ap, mDisp_ap, gSet_ap, gsNil_ap, gsCons_ap, gTupD_ap, mSet_ap, mAsg_ap, mPar_ap, mExpr_ap, mRet_ap, mRetN_ap, mNext_ap, mBreak_ap, mCont_ap, mSeq_ap, mIf_ap, iSeq_ap, iRan_ap, iRan2_ap, iEnm_ap, iZp_ap, mFor_ap, mWhile_ap, mCall_ap, mkD_ap, mLc_ap, fI_ap, fAdd_ap, fSub_ap, fMul_ap, fMod_ap, fDiv_ap, fPow_ap, fLt_ap, fLe_ap, fGt_ap, fGe_ap, fIsN_ap, fNotN_ap, fIsB_ap, fIx_ap, fAddX_ap, fSubX_ap, fMulX_ap, m1_ap, fNeg_ap, mB1_ap, fLen_ap, fAbs_ap, fInt_ap, fMin2_ap, fMax2_ap, fList_ap, fTuple_ap, fStr_ap, mMt_ap, mMtZ_ap, fAppend_ap, fInsert_ap, fExtend_ap, fPopAt_ap, mChain_ap, oNone_ap, oSome_ap, mSl_ap, gIx_ap, fInX_ap, fNotInX_ap, mIsi_ap, fEqX_ap, fNeX_ap, fAll_ap, fAny_ap, fSum_ap, fSorted_ap, fBest_ap, fIdx_ap, fRepr_ap, mPermA_ap, fBack_ap, gSplice_ap, mSortSet_ap, fMulY_ap, mTupRan_ap, mFz_ap, mGh_ap, fIsX_ap, mGhO_ap, ia_none_int, ia_none_bool, ia_none_list, ia_none_tuple, ia_none_str, ia_none_seq, ia_bool_int, ia_bool_bool, ia_bool_list, ia_bool_tuple, ia_bool_str, ia_bool_seq, ia_int_int, ia_int_bool, ia_int_list, ia_int_tuple, ia_int_str, ia_int_seq, ia_str_int, ia_str_bool, ia_str_list, ia_str_tuple, ia_str_str, ia_str_seq, ia_list_int, ia_list_bool, ia_list_list, ia_list_tuple, ia_list_str, ia_list_seq, ia_tuple_int, ia_tuple_bool, ia_tuple_list, ia_tuple_tuple, ia_tuple_str, ia_tuple_seq, mLst_ap, mTup_ap, mYes_ap, sizeLine_v, shaped_int, eqv_int, shaped_bool, eqv_bool, shaped_none, shaped_nilT, shaped_nilL, frz, frzAll, peek, res1, resAll, stoAll, argOf, argsOf, bors, wback, outAt, outsFrom, ownsStay, retv, wipeF, unwipe, sto, isNone, tyD, cY, cMul, cMod, cDiv, cPow, Cell.dat, b2n, frzS, frzL, fzV, atI, ixN, fMulL, key _ _ o.1 o.2], .inr ⟨_, rfl, by simp [lsD, lsA_map]⟩⟩
  | .tuple ds, o =>
    simp only [Ok] at o
    exact ⟨.fre (.lst (ds.map lsD)), by simp [B_lists, mVar_ap, mLit_ap, m2_ap, mB_ap, mAndT_ap, mOrT_ap, mNotT_ap, mAndV_ap, mOrV_ap, mNotV_ap, mIfE_ap, mNil_ap, mCons_ap, mDisp_ap, gSet_ap, gsNil_ap, gsCons_ap, gTupD_ap, mSet_ap, mAsg_ap, mPar_ap, mExpr_ap, mRet_ap, mRetN_ap, mNext_ap, mBreak_ap, mCont_ap, mSeq_ap, mIf_ap, iSeq_ap, iRan_ap, iRan2_ap, iEnm_ap, iZp_ap, mFor_ap, mWhile_ap, mCall_ap, mkD_ap, mLc_ap, fI_ap, fAdd_ap, fSub_ap, fMul_ap, fMod_ap, fDiv_ap, fPow_ap, fLt_ap, fLe_ap, fGt_ap, fGe_ap, fIsN_ap, fNotN_ap, fIsB_ap, fIx_ap, fAddX_ap, fSubX_ap, fMulX_ap, m1_ap, fNeg_ap, mB1_ap, fLen_ap, fAbs_ap, fInt_ap, fMin2_ap, fMax2_ap, fList_ap, fTuple_ap, fStr_ap, mMt_ap, mMtZ_ap, fAppend_ap, fInsert_ap, fExtend_ap, fPopAt_ap, mChain_ap, oNone_ap, oSome_ap, mSl_ap, gIx_ap, fInX_ap, fNotInX_ap, mIsi_ap, fEqX_ap, fNeX_ap, fAll_ap, fAny_ap, fSum_ap, fSorted_ap, fBest_ap, fIdx_ap, fRepr_ap, mPermA_ap, fBack_ap, gSplice_ap, mSortSet_ap, fMulY_ap, mTupRan_ap, mFz_ap, mGh_ap, fIsX_ap, mGhO_ap, ia_none_int, ia_none_bool, ia_none_list, ia_none_tuple, ia_none_str, ia_none_seq, ia_bool_int, ia_bool_bool, ia_bool_list, ia_bool_tuple, ia_bool_str, ia_bool_seq, ia_int_int, ia_int_bool, ia_int_list, ia_int_tuple, ia_int_str, ia_int_seq, ia_str_int, ia_str_bool, ia_str_list, ia_str_tuple, ia_str_str, ia_str_seq, ia_list_int, ia_list_bool, ia_list_list, ia_list_tuple, ia_list_str, ia_list_seq, ia_tuple_int, ia_tuple_bool, ia_tuple_list, ia_tuple_tuple, ia_tuple_str, ia_tuple_seq, mLst_ap, mTup_ap, mYes_ap, sizeLine_v, shaped_int, eqv_int, shaped_bool, eqv_bool, shaped_none, shaped_nilT, shaped_nilL, frz, frzAll, peek, res1, resAll, stoAll, argOf, argsOf, bors, wback, outAt, outsFrom, ownsStay, retv, wipeF, unwipe, sto, isNone, tyD, cY, cMul, cMod, cDiv, cPow, Cell.dat, b2n, frzS, frzL, fzV, atI, ixN, fMulL, key _ _ o.1 o.2], .inr ⟨_, rfl, by simp [lsD, lsA_map]⟩⟩
end Rf

/-! Sp3: shops that are drawn. -/
namespace Rf
open PySem PySem.Spec PyProof.Rows L2
theorem asc_app {t : Int} : ∀ {gs : List Int}, asc gs = true → (∀ x ∈ gs, x < t) → asc (gs ++ [t]) = true
  | [], _, _ => rfl
  | [x], _, h => by simp [asc]; exact h x (by simp)
  | x :: y :: r, a, h => by
    simp only [asc, Bool.and_eq_true, decide_eq_true_eq] at a
    have ih := asc_app (t := t) (gs := y :: r) a.2 fun z m => h z (List.mem_cons_of_mem _ m)
    simp only [List.cons_append] at ih ⊢
    simp only [asc, Bool.and_eq_true, decide_eq_true_eq]
    exact ⟨a.1, ih⟩
theorem asc_pair : ∀ {gs : List Int}, asc gs = true → gs.Pairwise (· < ·)
  | [], _ => .nil
  | [x], _ => by simp
  | x :: y :: r, a => by
    simp only [asc, Bool.and_eq_true, decide_eq_true_eq] at a
    have ih := asc_pair (gs := y :: r) a.2
    refine List.Pairwise.cons (fun z m => ?_) ih
    rcases List.mem_cons.1 m with rfl | m
    · exact a.1
    · have := (List.pairwise_cons.1 ih).1 z m; omega
theorem asc_of_pair : ∀ {gs : List Int}, gs.Pairwise (· < ·) → asc gs = true
  | [], _ => rfl
  | [x], _ => rfl
  | x :: y :: r, h => by
    simp only [asc, Bool.and_eq_true, decide_eq_true_eq]
    obtain ⟨h1, h2⟩ := List.pairwise_cons.1 h
    exact ⟨h1 y (by simp), asc_of_pair h2⟩
theorem asc_le {gs : List Int} {i j : Nat} (hj : j < gs.length) (h : i ≤ j) (a : asc gs = true) : gs[i] ≤ gs[j] := by
  rcases Nat.lt_or_eq_of_le h with h | rfl
  · exact Int.le_of_lt (List.pairwise_iff_getElem.1 (asc_pair a) i j (by omega) hj h)
  · exact Int.le_refl _
theorem nodup_of_asc {gs : List Int} (a : asc gs = true) : gs.Nodup := (asc_pair a).imp fun h => by omega
abbrev dI (l : List Int) : List PyData := l.map PyData.int
def dPair (p : Int × Int) : PyData := .tuple [.int p.1, .int p.2]
theorem ints_get {lo : Int} {n j : Nat} {d : PyData} (h : (Rf.intsFrom lo n)[j]? = some d) : d = .int (lo + (j : Nat)) ∧ j < n := by
  unfold Rf.intsFrom at h
  rw [List.getElem?_map] at h
  obtain ⟨k, hk, rfl⟩ := Option.map_eq_some_iff.1 h
  obtain ⟨h1, h2⟩ := List.getElem?_eq_some_iff.1 hk
  simp at h1 h2
  subst h2
  exact ⟨rfl, h1⟩
theorem ints_get0 {n j : Nat} {d : PyData} (h : (Rf.intsFrom 0 n)[j]? = some d) : d = .int (j : Nat) ∧ j < n := by
  obtain ⟨h1, h2⟩ := ints_get h
  rw [Int.zero_add] at h1
  exact ⟨h1, h2⟩
theorem ints_len {lo : Int} {n : Nat} : (Rf.intsFrom lo n).length = n := by simp [Rf.intsFrom]
/-- gauges -/
def SpGauges (D : Dm) : Prop := ∀ (C T : Int) (s : S0), Bx C s → C + 30 ≤ BC → 0 ≤ T → T ≤ 12 → Ev D [s, .dat (.int T)] fun r outs => ∃ gs s', r = .dat (.tuple (dI gs)) ∧ outs = [s', .dat (.int T)] ∧ Bx (C + 14) s' ∧ (gs.length : Int) = T ∧ asc gs = true ∧ ∀ x ∈ gs, 1 ≤ x ∧ x ≤ 200000000
def GI (C T g : Int) (k : Nat) (fm : Fm) : Prop := ∃ s t x2 gs, fm = [some s, some (.dat (.int T)), x2, some (.dat (.int g)), some (.dat (.int t)), some (.own (.lst (dI gs)))] ∧ Bx (C + 2 + k) s ∧ gs.length = k ∧ asc gs = true ∧ (∀ x ∈ gs, 1 ≤ x ∧ x ≤ t) ∧ 0 ≤ t ∧ t ≤ 2 + k * 10000001
theorem sp_gauges {P Tk : Dm} (hP : SpPick P) (hT : SpTake Tk) : SpGauges (B_gauges P Tk) := by
  intro C T s hs hC h0 hT12
  have hC' : C + 30 ≤ 100000000 := hC
  obtain ⟨g, s1, hg, a1, a2⟩ := hP C s (.dat (.list [.int 1, .int 1, .int 3, .int 10000000])) [.int 1, .int 1, .int 3, .int 10000000] (.inr (.inl rfl)) hs (by show C ≤ 100000000; omega) (by simp) (by simp)
  obtain ⟨g, rfl, hg1, hg2⟩ : ∃ g' : Int, g = .int g' ∧ 1 ≤ g' ∧ g' ≤ 10000000 := by
    simp only [List.mem_cons, List.not_mem_nil, or_false] at hg
    rcases hg with rfl | rfl | rfl | rfl
    · exact ⟨1, rfl, by omega, by omega⟩
    · exact ⟨1, rfl, by omega, by omega⟩
    · exact ⟨3, rfl, by omega, by omega⟩
    · exact ⟨10000000, rfl, by omega, by omega⟩
  obtain ⟨t0, s2, b1, b2, b3, b4⟩ := hT (C + 1) 3 s1 a1 (by show C + 1 ≤ 100000000; omega) (by omega) (by omega)
  obtain ⟨q, rfl⟩ := hs.own
  obtain ⟨q1, rfl⟩ := a1.own
  obtain ⟨q2, rfl⟩ := b3.own
  have w1 : -4611686018427387904 ≤ T := by omega
  have w2 : T < 4611686018427387904 := by omega
  refine mkD_wp rfl (wp_gh (by simp [mVar_ap, mLit_ap, m2_ap, mB_ap, mAndT_ap, mOrT_ap, mNotT_ap, mAndV_ap, mOrV_ap, mNotV_ap, mIfE_ap, mNil_ap, mCons_ap, mDisp_ap, gSet_ap, gsNil_ap, gsCons_ap, gTupD_ap, mSet_ap, mAsg_ap, mPar_ap, mExpr_ap, mRet_ap, mRetN_ap, mNext_ap, mBreak_ap, mCont_ap, mSeq_ap, mIf_ap, iSeq_ap, iRan_ap, iRan2_ap, iEnm_ap, iZp_ap, mFor_ap, mWhile_ap, mCall_ap, mkD_ap, mLc_ap, fI_ap, fAdd_ap, fSub_ap, fMul_ap, fMod_ap, fDiv_ap, fPow_ap, fLt_ap, fLe_ap, fGt_ap, fGe_ap, fIsN_ap, fNotN_ap, fIsB_ap, fIx_ap, fAddX_ap, fSubX_ap, fMulX_ap, m1_ap, fNeg_ap, mB1_ap, fLen_ap, fAbs_ap, fInt_ap, fMin2_ap, fMax2_ap, fList_ap, fTuple_ap, fStr_ap, mMt_ap, mMtZ_ap, fAppend_ap, fInsert_ap, fExtend_ap, fPopAt_ap, mChain_ap, oNone_ap, oSome_ap, mSl_ap, gIx_ap, fInX_ap, fNotInX_ap, mIsi_ap, fEqX_ap, fNeX_ap, fAll_ap, fAny_ap, fSum_ap, fSorted_ap, fBest_ap, fIdx_ap, fRepr_ap, mPermA_ap, fBack_ap, gSplice_ap, mSortSet_ap, fMulY_ap, mTupRan_ap, mFz_ap, mGh_ap, fIsX_ap, mGhO_ap, ia_none_int, ia_none_bool, ia_none_list, ia_none_tuple, ia_none_str, ia_none_seq, ia_bool_int, ia_bool_bool, ia_bool_list, ia_bool_tuple, ia_bool_str, ia_bool_seq, ia_int_int, ia_int_bool, ia_int_list, ia_int_tuple, ia_int_str, ia_int_seq, ia_str_int, ia_str_bool, ia_str_list, ia_str_tuple, ia_str_str, ia_str_seq, ia_list_int, ia_list_bool, ia_list_list, ia_list_tuple, ia_list_str, ia_list_seq, ia_tuple_int, ia_tuple_bool, ia_tuple_list, ia_tuple_tuple, ia_tuple_str, ia_tuple_seq, mLst_ap, mTup_ap, mYes_ap, sizeLine_v, shaped_int, eqv_int, shaped_bool, eqv_bool, shaped_none, shaped_nilT, shaped_nilL, frz, frzAll, peek, res1, resAll, stoAll, argOf, argsOf, bors, wback, outAt, outsFrom, ownsStay, retv, wipeF, unwipe, sto, isNone, tyD, cY, cMul, cMod, cDiv, cPow, Cell.dat, b2n, frzS, frzL, fzV, atI, ixN, fMulL, a2, b4]; (try first | rfl | exact ⟨rfl, rfl⟩ | exact ⟨rfl, rfl, rfl⟩ | exact ⟨rfl, rfl, rfl, rfl⟩ | exact ⟨rfl, rfl, rfl, rfl, rfl⟩)) (wp_seq (wp_for (GI C T g) (by simp [mVar_ap, mLit_ap, m2_ap, mB_ap, mAndT_ap, mOrT_ap, mNotT_ap, mAndV_ap, mOrV_ap, mNotV_ap, mIfE_ap, mNil_ap, mCons_ap, mDisp_ap, gSet_ap, gsNil_ap, gsCons_ap, gTupD_ap, mSet_ap, mAsg_ap, mPar_ap, mExpr_ap, mRet_ap, mRetN_ap, mNext_ap, mBreak_ap, mCont_ap, mSeq_ap, mIf_ap, iSeq_ap, iRan_ap, iRan2_ap, iEnm_ap, iZp_ap, mFor_ap, mWhile_ap, mCall_ap, mkD_ap, mLc_ap, fI_ap, fAdd_ap, fSub_ap, fMul_ap, fMod_ap, fDiv_ap, fPow_ap, fLt_ap, fLe_ap, fGt_ap, fGe_ap, fIsN_ap, fNotN_ap, fIsB_ap, fIx_ap, fAddX_ap, fSubX_ap, fMulX_ap, m1_ap, fNeg_ap, mB1_ap, fLen_ap, fAbs_ap, fInt_ap, fMin2_ap, fMax2_ap, fList_ap, fTuple_ap, fStr_ap, mMt_ap, mMtZ_ap, fAppend_ap, fInsert_ap, fExtend_ap, fPopAt_ap, mChain_ap, oNone_ap, oSome_ap, mSl_ap, gIx_ap, fInX_ap, fNotInX_ap, mIsi_ap, fEqX_ap, fNeX_ap, fAll_ap, fAny_ap, fSum_ap, fSorted_ap, fBest_ap, fIdx_ap, fRepr_ap, mPermA_ap, fBack_ap, gSplice_ap, mSortSet_ap, fMulY_ap, mTupRan_ap, mFz_ap, mGh_ap, fIsX_ap, mGhO_ap, ia_none_int, ia_none_bool, ia_none_list, ia_none_tuple, ia_none_str, ia_none_seq, ia_bool_int, ia_bool_bool, ia_bool_list, ia_bool_tuple, ia_bool_str, ia_bool_seq, ia_int_int, ia_int_bool, ia_int_list, ia_int_tuple, ia_int_str, ia_int_seq, ia_str_int, ia_str_bool, ia_str_list, ia_str_tuple, ia_str_str, ia_str_seq, ia_list_int, ia_list_bool, ia_list_list, ia_list_tuple, ia_list_str, ia_list_seq, ia_tuple_int, ia_tuple_bool, ia_tuple_list, ia_tuple_tuple, ia_tuple_str, ia_tuple_seq, mLst_ap, mTup_ap, mYes_ap, sizeLine_v, shaped_int, eqv_int, shaped_bool, eqv_bool, shaped_none, shaped_nilT, shaped_nilL, frz, frzAll, peek, res1, resAll, stoAll, argOf, argsOf, bors, wback, outAt, outsFrom, ownsStay, retv, wipeF, unwipe, sto, isNone, tyD, cY, cMul, cMod, cDiv, cPow, Cell.dat, b2n, frzS, frzL, fzV, atI, ixN, fMulL, w1, w2]; (try first | rfl | exact ⟨rfl, rfl⟩ | exact ⟨rfl, rfl, rfl⟩ | exact ⟨rfl, rfl, rfl, rfl⟩ | exact ⟨rfl, rfl, rfl, rfl, rfl⟩)) ⟨_, t0, none, [], rfl, b3.mono (by omega), rfl, rfl, by simp, b1, by omega⟩ ?_ ?_)))
  · intro j d m fm i
    obtain ⟨rfl, hj⟩ := ints_get m
    obtain ⟨s, t, x2, gs, rfl, i1, i2, i3, i4, i5, i6⟩ := i
    obtain ⟨r, s', c1, c2, c3, c4⟩ := hT _ g s i1 (by show _ ≤ (100000000 : Int); omega) (by omega) (by omega)
    obtain ⟨q3, rfl⟩ := i1.own
    obtain ⟨q4, rfl⟩ := c3.own
    have hq : gs.length < 16777216 := by omega
    refine ⟨_, rfl, wp_is (by simp [mVar_ap, mLit_ap, m2_ap, mB_ap, mAndT_ap, mOrT_ap, mNotT_ap, mAndV_ap, mOrV_ap, mNotV_ap, mIfE_ap, mNil_ap, mCons_ap, mDisp_ap, gSet_ap, gsNil_ap, gsCons_ap, gTupD_ap, mSet_ap, mAsg_ap, mPar_ap, mExpr_ap, mRet_ap, mRetN_ap, mNext_ap, mBreak_ap, mCont_ap, mSeq_ap, mIf_ap, iSeq_ap, iRan_ap, iRan2_ap, iEnm_ap, iZp_ap, mFor_ap, mWhile_ap, mCall_ap, mkD_ap, mLc_ap, fI_ap, fAdd_ap, fSub_ap, fMul_ap, fMod_ap, fDiv_ap, fPow_ap, fLt_ap, fLe_ap, fGt_ap, fGe_ap, fIsN_ap, fNotN_ap, fIsB_ap, fIx_ap, fAddX_ap, fSubX_ap, fMulX_ap, m1_ap, fNeg_ap, mB1_ap, fLen_ap, fAbs_ap, fInt_ap, fMin2_ap, fMax2_ap, fList_ap, fTuple_ap, fStr_ap, mMt_ap, mMtZ_ap, fAppend_ap, fInsert_ap, fExtend_ap, fPopAt_ap, mChain_ap, oNone_ap, oSome_ap, mSl_ap, gIx_ap, fInX_ap, fNotInX_ap, mIsi_ap, fEqX_ap, fNeX_ap, fAll_ap, fAny_ap, fSum_ap, fSorted_ap, fBest_ap, fIdx_ap, fRepr_ap, mPermA_ap, fBack_ap, gSplice_ap, mSortSet_ap, fMulY_ap, mTupRan_ap, mFz_ap, mGh_ap, fIsX_ap, mGhO_ap, ia_none_int, ia_none_bool, ia_none_list, ia_none_tuple, ia_none_str, ia_none_seq, ia_bool_int, ia_bool_bool, ia_bool_list, ia_bool_tuple, ia_bool_str, ia_bool_seq, ia_int_int, ia_int_bool, ia_int_list, ia_int_tuple, ia_int_str, ia_int_seq, ia_str_int, ia_str_bool, ia_str_list, ia_str_tuple, ia_str_str, ia_str_seq, ia_list_int, ia_list_bool, ia_list_list, ia_list_tuple, ia_list_str, ia_list_seq, ia_tuple_int, ia_tuple_bool, ia_tuple_list, ia_tuple_tuple, ia_tuple_str, ia_tuple_seq, mLst_ap, mTup_ap, mYes_ap, sizeLine_v, shaped_int, eqv_int, shaped_bool, eqv_bool, shaped_none, shaped_nilT, shaped_nilL, frz, frzAll, peek, res1, resAll, stoAll, argOf, argsOf, bors, wback, outAt, outsFrom, ownsStay, retv, wipeF, unwipe, sto, isNone, tyD, cY, cMul, cMod, cDiv, cPow, Cell.dat, b2n, frzS, frzL, fzV, atI, ixN, fMulL, c4, hq]; (try first | rfl | exact ⟨rfl, rfl⟩ | exact ⟨rfl, rfl, rfl⟩ | exact ⟨rfl, rfl, rfl, rfl⟩ | exact ⟨rfl, rfl, rfl, rfl, rfl⟩)) ⟨rfl, .own (.lst q4), t + 1 + r, _, gs ++ [t + 1 + r], by simp; (try first | rfl | exact ⟨rfl, rfl⟩ | exact ⟨rfl, rfl, rfl⟩ | exact ⟨rfl, rfl, rfl, rfl⟩ | exact ⟨rfl, rfl, rfl, rfl, rfl⟩), c3.mono (by omega), by simp [i2], asc_app i3 (fun x m => by have := i4 x m; omega), ?_, by omega, by omega⟩⟩
    intro x m
    rcases List.mem_append.1 m with m | m
    · have := i4 x m; omega
    · simp at m; omega
  · intro fm' i
    rw [ints_len] at i
    obtain ⟨s, t, x2, gs, rfl, i1, i2, i3, i4, i5, i6⟩ := i
    refine ⟨rfl, wp_is (by simp [mVar_ap, mLit_ap, m2_ap, mB_ap, mAndT_ap, mOrT_ap, mNotT_ap, mAndV_ap, mOrV_ap, mNotV_ap, mIfE_ap, mNil_ap, mCons_ap, mDisp_ap, gSet_ap, gsNil_ap, gsCons_ap, gTupD_ap, mSet_ap, mAsg_ap, mPar_ap, mExpr_ap, mRet_ap, mRetN_ap, mNext_ap, mBreak_ap, mCont_ap, mSeq_ap, mIf_ap, iSeq_ap, iRan_ap, iRan2_ap, iEnm_ap, iZp_ap, mFor_ap, mWhile_ap, mCall_ap, mkD_ap, mLc_ap, fI_ap, fAdd_ap, fSub_ap, fMul_ap, fMod_ap, fDiv_ap, fPow_ap, fLt_ap, fLe_ap, fGt_ap, fGe_ap, fIsN_ap, fNotN_ap, fIsB_ap, fIx_ap, fAddX_ap, fSubX_ap, fMulX_ap, m1_ap, fNeg_ap, mB1_ap, fLen_ap, fAbs_ap, fInt_ap, fMin2_ap, fMax2_ap, fList_ap, fTuple_ap, fStr_ap, mMt_ap, mMtZ_ap, fAppend_ap, fInsert_ap, fExtend_ap, fPopAt_ap, mChain_ap, oNone_ap, oSome_ap, mSl_ap, gIx_ap, fInX_ap, fNotInX_ap, mIsi_ap, fEqX_ap, fNeX_ap, fAll_ap, fAny_ap, fSum_ap, fSorted_ap, fBest_ap, fIdx_ap, fRepr_ap, mPermA_ap, fBack_ap, gSplice_ap, mSortSet_ap, fMulY_ap, mTupRan_ap, mFz_ap, mGh_ap, fIsX_ap, mGhO_ap, ia_none_int, ia_none_bool, ia_none_list, ia_none_tuple, ia_none_str, ia_none_seq, ia_bool_int, ia_bool_bool, ia_bool_list, ia_bool_tuple, ia_bool_str, ia_bool_seq, ia_int_int, ia_int_bool, ia_int_list, ia_int_tuple, ia_int_str, ia_int_seq, ia_str_int, ia_str_bool, ia_str_list, ia_str_tuple, ia_str_str, ia_str_seq, ia_list_int, ia_list_bool, ia_list_list, ia_list_tuple, ia_list_str, ia_list_seq, ia_tuple_int, ia_tuple_bool, ia_tuple_list, ia_tuple_tuple, ia_tuple_str, ia_tuple_seq, mLst_ap, mTup_ap, mYes_ap, sizeLine_v, shaped_int, eqv_int, shaped_bool, eqv_bool, shaped_none, shaped_nilT, shaped_nilL, frz, frzAll, peek, res1, resAll, stoAll, argOf, argsOf, bors, wback, outAt, outsFrom, ownsStay, retv, wipeF, unwipe, sto, isNone, tyD, cY, cMul, cMod, cDiv, cPow, Cell.dat, b2n, frzS, frzL, fzV, atI, ixN, fMulL]; (try first | rfl | exact ⟨rfl, rfl⟩ | exact ⟨rfl, rfl, rfl⟩ | exact ⟨rfl, rfl, rfl, rfl⟩ | exact ⟨rfl, rfl, rfl, rfl, rfl⟩)) ⟨_, _, _, _, rfl, rfl, by simp [mVar_ap, mLit_ap, m2_ap, mB_ap, mAndT_ap, mOrT_ap, mNotT_ap, mAndV_ap, mOrV_ap, mNotV_ap, mIfE_ap, mNil_ap, mCons_ap, mDisp_ap, gSet_ap, gsNil_ap, gsCons_ap, gTupD_ap, mSet_ap, mAsg_ap, mPar_ap, mExpr_ap, mRet_ap, mRetN_ap, mNext_ap, mBreak_ap, mCont_ap, mSeq_ap, mIf_ap, iSeq_ap, iRan_ap, iRan2_ap, iEnm_ap, iZp_ap, mFor_ap, mWhile_ap, mCall_ap, mkD_ap, mLc_ap, fI_ap, fAdd_ap, fSub_ap, fMul_ap, fMod_ap, fDiv_ap, fPow_ap, fLt_ap, fLe_ap, fGt_ap, fGe_ap, fIsN_ap, fNotN_ap, fIsB_ap, fIx_ap, fAddX_ap, fSubX_ap, fMulX_ap, m1_ap, fNeg_ap, mB1_ap, fLen_ap, fAbs_ap, fInt_ap, fMin2_ap, fMax2_ap, fList_ap, fTuple_ap, fStr_ap, mMt_ap, mMtZ_ap, fAppend_ap, fInsert_ap, fExtend_ap, fPopAt_ap, mChain_ap, oNone_ap, oSome_ap, mSl_ap, gIx_ap, fInX_ap, fNotInX_ap, mIsi_ap, fEqX_ap, fNeX_ap, fAll_ap, fAny_ap, fSum_ap, fSorted_ap, fBest_ap, fIdx_ap, fRepr_ap, mPermA_ap, fBack_ap, gSplice_ap, mSortSet_ap, fMulY_ap, mTupRan_ap, mFz_ap, mGh_ap, fIsX_ap, mGhO_ap, ia_none_int, ia_none_bool, ia_none_list, ia_none_tuple, ia_none_str, ia_none_seq, ia_bool_int, ia_bool_bool, ia_bool_list, ia_bool_tuple, ia_bool_str, ia_bool_seq, ia_int_int, ia_int_bool, ia_int_list, ia_int_tuple, ia_int_str, ia_int_seq, ia_str_int, ia_str_bool, ia_str_list, ia_str_tuple, ia_str_str, ia_str_seq, ia_list_int, ia_list_bool, ia_list_list, ia_list_tuple, ia_list_str, ia_list_seq, ia_tuple_int, ia_tuple_bool, ia_tuple_list, ia_tuple_tuple, ia_tuple_str, ia_tuple_seq, mLst_ap, mTup_ap, mYes_ap, sizeLine_v, shaped_int, eqv_int, shaped_bool, eqv_bool, shaped_none, shaped_nilT, shaped_nilL, frz, frzAll, peek, res1, resAll, stoAll, argOf, argsOf, bors, wback, outAt, outsFrom, ownsStay, retv, wipeF, unwipe, sto, isNone, tyD, cY, cMul, cMod, cDiv, cPow, Cell.dat, b2n, frzS, frzL, fzV, atI, ixN, fMulL]; (try first | rfl | exact ⟨rfl, rfl⟩ | exact ⟨rfl, rfl, rfl⟩ | exact ⟨rfl, rfl, rfl, rfl⟩ | exact ⟨rfl, rfl, rfl, rfl, rfl⟩), gs, s, rfl, rfl, i1.mono (by omega), by omega, i3, fun x m => by have := i4 x m; omega⟩⟩
/-! shuffled -/
theorem map_erase : ∀ (ls : List Int) (k : Nat), (dI ls).eraseIdx k = dI (ls.eraseIdx k)
  | [], _ => rfl
  | _ :: _, 0 => rfl
  | x :: ls, k + 1 => by simp [map_erase ls k]
theorem perm_erase {ls fs : List Int} {k : Nat} (h : k < ls.length) : (ls.eraseIdx k ++ (fs ++ [ls[k]])).Perm (ls ++ fs) := by
  have h1 : (ls[k] :: ls.eraseIdx k).Perm ls := by
    induction ls generalizing k with
    | nil => simp at h
    | cons x ls ih =>
      cases k with
      | zero => exact List.Perm.refl _
      | succ k =>
        have := ih (k := k) (by simpa using h)
        simp only [List.getElem_cons_succ, List.eraseIdx_cons_succ]
        exact (List.Perm.swap x _ _).trans (this.cons x)
  have h2 : (ls.eraseIdx k ++ (fs ++ [ls[k]])).Perm ([ls[k]] ++ (ls.eraseIdx k ++ fs)) := by
    rw [← List.append_assoc]
    exact List.perm_append_comm
  refine h2.trans ?_
  have h3 := h1.append_right fs
  simpa using h3
def SpShuffled (D : Dm) : Prop := ∀ (C : Int) (s : S0) (gs : List Int), Bx C s → C + 30 ≤ BC → gs.length ≤ 12 → Ev D [s, .dat (.tuple (dI gs))] fun r outs => ∃ rs s', r = .fre (.lst (dI rs)) ∧ outs = [s', .dat (.tuple (dI gs))] ∧ Bx (C + 12) s' ∧ rs.Perm gs
theorem sp_shuffled {Tk : Dm} (hT : SpTake Tk) : SpShuffled (B_shuffled Tk) := by
  intro C s gs hs hC hg
  have hC' : C + 30 ≤ 100000000 := hC
  obtain ⟨q, rfl⟩ := hs.own
  refine mkD_wp rfl (wp_nx (by simp [mVar_ap, mLit_ap, m2_ap, mB_ap, mAndT_ap, mOrT_ap, mNotT_ap, mAndV_ap, mOrV_ap, mNotV_ap, mIfE_ap, mNil_ap, mCons_ap, mDisp_ap, gSet_ap, gsNil_ap, gsCons_ap, gTupD_ap, mSet_ap, mAsg_ap, mPar_ap, mExpr_ap, mRet_ap, mRetN_ap, mNext_ap, mBreak_ap, mCont_ap, mSeq_ap, mIf_ap, iSeq_ap, iRan_ap, iRan2_ap, iEnm_ap, iZp_ap, mFor_ap, mWhile_ap, mCall_ap, mkD_ap, mLc_ap, fI_ap, fAdd_ap, fSub_ap, fMul_ap, fMod_ap, fDiv_ap, fPow_ap, fLt_ap, fLe_ap, fGt_ap, fGe_ap, fIsN_ap, fNotN_ap, fIsB_ap, fIx_ap, fAddX_ap, fSubX_ap, fMulX_ap, m1_ap, fNeg_ap, mB1_ap, fLen_ap, fAbs_ap, fInt_ap, fMin2_ap, fMax2_ap, fList_ap, fTuple_ap, fStr_ap, mMt_ap, mMtZ_ap, fAppend_ap, fInsert_ap, fExtend_ap, fPopAt_ap, mChain_ap, oNone_ap, oSome_ap, mSl_ap, gIx_ap, fInX_ap, fNotInX_ap, mIsi_ap, fEqX_ap, fNeX_ap, fAll_ap, fAny_ap, fSum_ap, fSorted_ap, fBest_ap, fIdx_ap, fRepr_ap, mPermA_ap, fBack_ap, gSplice_ap, mSortSet_ap, fMulY_ap, mTupRan_ap, mFz_ap, mGh_ap, fIsX_ap, mGhO_ap, ia_none_int, ia_none_bool, ia_none_list, ia_none_tuple, ia_none_str, ia_none_seq, ia_bool_int, ia_bool_bool, ia_bool_list, ia_bool_tuple, ia_bool_str, ia_bool_seq, ia_int_int, ia_int_bool, ia_int_list, ia_int_tuple, ia_int_str, ia_int_seq, ia_str_int, ia_str_bool, ia_str_list, ia_str_tuple, ia_str_str, ia_str_seq, ia_list_int, ia_list_bool, ia_list_list, ia_list_tuple, ia_list_str, ia_list_seq, ia_tuple_int, ia_tuple_bool, ia_tuple_list, ia_tuple_tuple, ia_tuple_str, ia_tuple_seq, mLst_ap, mTup_ap, mYes_ap, sizeLine_v, shaped_int, eqv_int, shaped_bool, eqv_bool, shaped_none, shaped_nilT, shaped_nilL, frz, frzAll, peek, res1, resAll, stoAll, argOf, argsOf, bors, wback, outAt, outsFrom, ownsStay, retv, wipeF, unwipe, sto, isNone, tyD, cY, cMul, cMod, cDiv, cPow, Cell.dat, b2n, frzS, frzL, fzV, atI, ixN, fMulL]; (try first | rfl | exact ⟨rfl, rfl⟩ | exact ⟨rfl, rfl, rfl⟩ | exact ⟨rfl, rfl, rfl, rfl⟩ | exact ⟨rfl, rfl, rfl, rfl, rfl⟩)) (wp_seq (wp_while (fun k fm => ∃ s ls fs, fm = [some s, some (.dat (.tuple (dI gs))), some (.own (.lst (dI ls))), some (.own (.lst (dI fs)))] ∧ ls.length = k ∧ k ≤ gs.length ∧ Bx (C + (gs.length - k : Nat)) s ∧ (ls ++ fs).Perm gs) ?_ 100000 gs.length _ ⟨_, gs, [], by simp [mVar_ap, mLit_ap, m2_ap, mB_ap, mAndT_ap, mOrT_ap, mNotT_ap, mAndV_ap, mOrV_ap, mNotV_ap, mIfE_ap, mNil_ap, mCons_ap, mDisp_ap, gSet_ap, gsNil_ap, gsCons_ap, gTupD_ap, mSet_ap, mAsg_ap, mPar_ap, mExpr_ap, mRet_ap, mRetN_ap, mNext_ap, mBreak_ap, mCont_ap, mSeq_ap, mIf_ap, iSeq_ap, iRan_ap, iRan2_ap, iEnm_ap, iZp_ap, mFor_ap, mWhile_ap, mCall_ap, mkD_ap, mLc_ap, fI_ap, fAdd_ap, fSub_ap, fMul_ap, fMod_ap, fDiv_ap, fPow_ap, fLt_ap, fLe_ap, fGt_ap, fGe_ap, fIsN_ap, fNotN_ap, fIsB_ap, fIx_ap, fAddX_ap, fSubX_ap, fMulX_ap, m1_ap, fNeg_ap, mB1_ap, fLen_ap, fAbs_ap, fInt_ap, fMin2_ap, fMax2_ap, fList_ap, fTuple_ap, fStr_ap, mMt_ap, mMtZ_ap, fAppend_ap, fInsert_ap, fExtend_ap, fPopAt_ap, mChain_ap, oNone_ap, oSome_ap, mSl_ap, gIx_ap, fInX_ap, fNotInX_ap, mIsi_ap, fEqX_ap, fNeX_ap, fAll_ap, fAny_ap, fSum_ap, fSorted_ap, fBest_ap, fIdx_ap, fRepr_ap, mPermA_ap, fBack_ap, gSplice_ap, mSortSet_ap, fMulY_ap, mTupRan_ap, mFz_ap, mGh_ap, fIsX_ap, mGhO_ap, ia_none_int, ia_none_bool, ia_none_list, ia_none_tuple, ia_none_str, ia_none_seq, ia_bool_int, ia_bool_bool, ia_bool_list, ia_bool_tuple, ia_bool_str, ia_bool_seq, ia_int_int, ia_int_bool, ia_int_list, ia_int_tuple, ia_int_str, ia_int_seq, ia_str_int, ia_str_bool, ia_str_list, ia_str_tuple, ia_str_str, ia_str_seq, ia_list_int, ia_list_bool, ia_list_list, ia_list_tuple, ia_list_str, ia_list_seq, ia_tuple_int, ia_tuple_bool, ia_tuple_list, ia_tuple_tuple, ia_tuple_str, ia_tuple_seq, mLst_ap, mTup_ap, mYes_ap, sizeLine_v, shaped_int, eqv_int, shaped_bool, eqv_bool, shaped_none, shaped_nilT, shaped_nilL, frz, frzAll, peek, res1, resAll, stoAll, argOf, argsOf, bors, wback, outAt, outsFrom, ownsStay, retv, wipeF, unwipe, sto, isNone, tyD, cY, cMul, cMod, cDiv, cPow, Cell.dat, b2n, frzS, frzL, fzV, atI, ixN, fMulL], rfl, by omega, hs.mono (by omega), by simp⟩ (by omega))))
  intro k fm i
  obtain ⟨s, ls, fs, rfl, i1, i2, i3, i4⟩ := i
  have hlen := i4.length_eq
  simp only [List.length_append] at hlen
  obtain ⟨q3, rfl⟩ := i3.own
  cases k with
  | zero =>
    obtain rfl : ls = [] := by cases ls with | nil => rfl | cons _ _ => simp at i1
    refine .inl ⟨_, by simp [mVar_ap, mLit_ap, m2_ap, mB_ap, mAndT_ap, mOrT_ap, mNotT_ap, mAndV_ap, mOrV_ap, mNotV_ap, mIfE_ap, mNil_ap, mCons_ap, mDisp_ap, gSet_ap, gsNil_ap, gsCons_ap, gTupD_ap, mSet_ap, mAsg_ap, mPar_ap, mExpr_ap, mRet_ap, mRetN_ap, mNext_ap, mBreak_ap, mCont_ap, mSeq_ap, mIf_ap, iSeq_ap, iRan_ap, iRan2_ap, iEnm_ap, iZp_ap, mFor_ap, mWhile_ap, mCall_ap, mkD_ap, mLc_ap, fI_ap, fAdd_ap, fSub_ap, fMul_ap, fMod_ap, fDiv_ap, fPow_ap, fLt_ap, fLe_ap, fGt_ap, fGe_ap, fIsN_ap, fNotN_ap, fIsB_ap, fIx_ap, fAddX_ap, fSubX_ap, fMulX_ap, m1_ap, fNeg_ap, mB1_ap, fLen_ap, fAbs_ap, fInt_ap, fMin2_ap, fMax2_ap, fList_ap, fTuple_ap, fStr_ap, mMt_ap, mMtZ_ap, fAppend_ap, fInsert_ap, fExtend_ap, fPopAt_ap, mChain_ap, oNone_ap, oSome_ap, mSl_ap, gIx_ap, fInX_ap, fNotInX_ap, mIsi_ap, fEqX_ap, fNeX_ap, fAll_ap, fAny_ap, fSum_ap, fSorted_ap, fBest_ap, fIdx_ap, fRepr_ap, mPermA_ap, fBack_ap, gSplice_ap, mSortSet_ap, fMulY_ap, mTupRan_ap, mFz_ap, mGh_ap, fIsX_ap, mGhO_ap, ia_none_int, ia_none_bool, ia_none_list, ia_none_tuple, ia_none_str, ia_none_seq, ia_bool_int, ia_bool_bool, ia_bool_list, ia_bool_tuple, ia_bool_str, ia_bool_seq, ia_int_int, ia_int_bool, ia_int_list, ia_int_tuple, ia_int_str, ia_int_seq, ia_str_int, ia_str_bool, ia_str_list, ia_str_tuple, ia_str_str, ia_str_seq, ia_list_int, ia_list_bool, ia_list_list, ia_list_tuple, ia_list_str, ia_list_seq, ia_tuple_int, ia_tuple_bool, ia_tuple_list, ia_tuple_tuple, ia_tuple_str, ia_tuple_seq, mLst_ap, mTup_ap, mYes_ap, sizeLine_v, shaped_int, eqv_int, shaped_bool, eqv_bool, shaped_none, shaped_nilT, shaped_nilL, frz, frzAll, peek, res1, resAll, stoAll, argOf, argsOf, bors, wback, outAt, outsFrom, ownsStay, retv, wipeF, unwipe, sto, isNone, tyD, cY, cMul, cMod, cDiv, cPow, Cell.dat, b2n, frzS, frzL, fzV, atI, ixN, fMulL, PyData.eqv, PyData.eqvAll]; (try first | rfl | exact ⟨rfl, rfl⟩ | exact ⟨rfl, rfl, rfl⟩ | exact ⟨rfl, rfl, rfl, rfl⟩ | exact ⟨rfl, rfl, rfl, rfl, rfl⟩), rfl, wp_is (by simp [mVar_ap, mLit_ap, m2_ap, mB_ap, mAndT_ap, mOrT_ap, mNotT_ap, mAndV_ap, mOrV_ap, mNotV_ap, mIfE_ap, mNil_ap, mCons_ap, mDisp_ap, gSet_ap, gsNil_ap, gsCons_ap, gTupD_ap, mSet_ap, mAsg_ap, mPar_ap, mExpr_ap, mRet_ap, mRetN_ap, mNext_ap, mBreak_ap, mCont_ap, mSeq_ap, mIf_ap, iSeq_ap, iRan_ap, iRan2_ap, iEnm_ap, iZp_ap, mFor_ap, mWhile_ap, mCall_ap, mkD_ap, mLc_ap, fI_ap, fAdd_ap, fSub_ap, fMul_ap, fMod_ap, fDiv_ap, fPow_ap, fLt_ap, fLe_ap, fGt_ap, fGe_ap, fIsN_ap, fNotN_ap, fIsB_ap, fIx_ap, fAddX_ap, fSubX_ap, fMulX_ap, m1_ap, fNeg_ap, mB1_ap, fLen_ap, fAbs_ap, fInt_ap, fMin2_ap, fMax2_ap, fList_ap, fTuple_ap, fStr_ap, mMt_ap, mMtZ_ap, fAppend_ap, fInsert_ap, fExtend_ap, fPopAt_ap, mChain_ap, oNone_ap, oSome_ap, mSl_ap, gIx_ap, fInX_ap, fNotInX_ap, mIsi_ap, fEqX_ap, fNeX_ap, fAll_ap, fAny_ap, fSum_ap, fSorted_ap, fBest_ap, fIdx_ap, fRepr_ap, mPermA_ap, fBack_ap, gSplice_ap, mSortSet_ap, fMulY_ap, mTupRan_ap, mFz_ap, mGh_ap, fIsX_ap, mGhO_ap, ia_none_int, ia_none_bool, ia_none_list, ia_none_tuple, ia_none_str, ia_none_seq, ia_bool_int, ia_bool_bool, ia_bool_list, ia_bool_tuple, ia_bool_str, ia_bool_seq, ia_int_int, ia_int_bool, ia_int_list, ia_int_tuple, ia_int_str, ia_int_seq, ia_str_int, ia_str_bool, ia_str_list, ia_str_tuple, ia_str_str, ia_str_seq, ia_list_int, ia_list_bool, ia_list_list, ia_list_tuple, ia_list_str, ia_list_seq, ia_tuple_int, ia_tuple_bool, ia_tuple_list, ia_tuple_tuple, ia_tuple_str, ia_tuple_seq, mLst_ap, mTup_ap, mYes_ap, sizeLine_v, shaped_int, eqv_int, shaped_bool, eqv_bool, shaped_none, shaped_nilT, shaped_nilL, frz, frzAll, peek, res1, resAll, stoAll, argOf, argsOf, bors, wback, outAt, outsFrom, ownsStay, retv, wipeF, unwipe, sto, isNone, tyD, cY, cMul, cMod, cDiv, cPow, Cell.dat, b2n, frzS, frzL, fzV, atI, ixN, fMulL]; (try first | rfl | exact ⟨rfl, rfl⟩ | exact ⟨rfl, rfl, rfl⟩ | exact ⟨rfl, rfl, rfl, rfl⟩ | exact ⟨rfl, rfl, rfl, rfl, rfl⟩)) ⟨_, _, _, _, rfl, by simp [mVar_ap, mLit_ap, m2_ap, mB_ap, mAndT_ap, mOrT_ap, mNotT_ap, mAndV_ap, mOrV_ap, mNotV_ap, mIfE_ap, mNil_ap, mCons_ap, mDisp_ap, gSet_ap, gsNil_ap, gsCons_ap, gTupD_ap, mSet_ap, mAsg_ap, mPar_ap, mExpr_ap, mRet_ap, mRetN_ap, mNext_ap, mBreak_ap, mCont_ap, mSeq_ap, mIf_ap, iSeq_ap, iRan_ap, iRan2_ap, iEnm_ap, iZp_ap, mFor_ap, mWhile_ap, mCall_ap, mkD_ap, mLc_ap, fI_ap, fAdd_ap, fSub_ap, fMul_ap, fMod_ap, fDiv_ap, fPow_ap, fLt_ap, fLe_ap, fGt_ap, fGe_ap, fIsN_ap, fNotN_ap, fIsB_ap, fIx_ap, fAddX_ap, fSubX_ap, fMulX_ap, m1_ap, fNeg_ap, mB1_ap, fLen_ap, fAbs_ap, fInt_ap, fMin2_ap, fMax2_ap, fList_ap, fTuple_ap, fStr_ap, mMt_ap, mMtZ_ap, fAppend_ap, fInsert_ap, fExtend_ap, fPopAt_ap, mChain_ap, oNone_ap, oSome_ap, mSl_ap, gIx_ap, fInX_ap, fNotInX_ap, mIsi_ap, fEqX_ap, fNeX_ap, fAll_ap, fAny_ap, fSum_ap, fSorted_ap, fBest_ap, fIdx_ap, fRepr_ap, mPermA_ap, fBack_ap, gSplice_ap, mSortSet_ap, fMulY_ap, mTupRan_ap, mFz_ap, mGh_ap, fIsX_ap, mGhO_ap, ia_none_int, ia_none_bool, ia_none_list, ia_none_tuple, ia_none_str, ia_none_seq, ia_bool_int, ia_bool_bool, ia_bool_list, ia_bool_tuple, ia_bool_str, ia_bool_seq, ia_int_int, ia_int_bool, ia_int_list, ia_int_tuple, ia_int_str, ia_int_seq, ia_str_int, ia_str_bool, ia_str_list, ia_str_tuple, ia_str_str, ia_str_seq, ia_list_int, ia_list_bool, ia_list_list, ia_list_tuple, ia_list_str, ia_list_seq, ia_tuple_int, ia_tuple_bool, ia_tuple_list, ia_tuple_tuple, ia_tuple_str, ia_tuple_seq, mLst_ap, mTup_ap, mYes_ap, sizeLine_v, shaped_int, eqv_int, shaped_bool, eqv_bool, shaped_none, shaped_nilT, shaped_nilL, frz, frzAll, peek, res1, resAll, stoAll, argOf, argsOf, bors, wback, outAt, outsFrom, ownsStay, retv, wipeF, unwipe, sto, isNone, tyD, cY, cMul, cMod, cDiv, cPow, Cell.dat, b2n, frzS, frzL, fzV, atI, ixN, fMulL]; (try first | rfl | exact ⟨rfl, rfl⟩ | exact ⟨rfl, rfl, rfl⟩ | exact ⟨rfl, rfl, rfl, rfl⟩ | exact ⟨rfl, rfl, rfl, rfl, rfl⟩), by simp [mVar_ap, mLit_ap, m2_ap, mB_ap, mAndT_ap, mOrT_ap, mNotT_ap, mAndV_ap, mOrV_ap, mNotV_ap, mIfE_ap, mNil_ap, mCons_ap, mDisp_ap, gSet_ap, gsNil_ap, gsCons_ap, gTupD_ap, mSet_ap, mAsg_ap, mPar_ap, mExpr_ap, mRet_ap, mRetN_ap, mNext_ap, mBreak_ap, mCont_ap, mSeq_ap, mIf_ap, iSeq_ap, iRan_ap, iRan2_ap, iEnm_ap, iZp_ap, mFor_ap, mWhile_ap, mCall_ap, mkD_ap, mLc_ap, fI_ap, fAdd_ap, fSub_ap, fMul_ap, fMod_ap, fDiv_ap, fPow_ap, fLt_ap, fLe_ap, fGt_ap, fGe_ap, fIsN_ap, fNotN_ap, fIsB_ap, fIx_ap, fAddX_ap, fSubX_ap, fMulX_ap, m1_ap, fNeg_ap, mB1_ap, fLen_ap, fAbs_ap, fInt_ap, fMin2_ap, fMax2_ap, fList_ap, fTuple_ap, fStr_ap, mMt_ap, mMtZ_ap, fAppend_ap, fInsert_ap, fExtend_ap, fPopAt_ap, mChain_ap, oNone_ap, oSome_ap, mSl_ap, gIx_ap, fInX_ap, fNotInX_ap, mIsi_ap, fEqX_ap, fNeX_ap, fAll_ap, fAny_ap, fSum_ap, fSorted_ap, fBest_ap, fIdx_ap, fRepr_ap, mPermA_ap, fBack_ap, gSplice_ap, mSortSet_ap, fMulY_ap, mTupRan_ap, mFz_ap, mGh_ap, fIsX_ap, mGhO_ap, ia_none_int, ia_none_bool, ia_none_list, ia_none_tuple, ia_none_str, ia_none_seq, ia_bool_int, ia_bool_bool, ia_bool_list, ia_bool_tuple, ia_bool_str, ia_bool_seq, ia_int_int, ia_int_bool, ia_int_list, ia_int_tuple, ia_int_str, ia_int_seq, ia_str_int, ia_str_bool, ia_str_list, ia_str_tuple, ia_str_str, ia_str_seq, ia_list_int, ia_list_bool, ia_list_list, ia_list_tuple, ia_list_str, ia_list_seq, ia_tuple_int, ia_tuple_bool, ia_tuple_list, ia_tuple_tuple, ia_tuple_str, ia_tuple_seq, mLst_ap, mTup_ap, mYes_ap, sizeLine_v, shaped_int, eqv_int, shaped_bool, eqv_bool, shaped_none, shaped_nilT, shaped_nilL, frz, frzAll, peek, res1, resAll, stoAll, argOf, argsOf, bors, wback, outAt, outsFrom, ownsStay, retv, wipeF, unwipe, sto, isNone, tyD, cY, cMul, cMod, cDiv, cPow, Cell.dat, b2n, frzS, frzL, fzV, atI, ixN, fMulL]; (try first | rfl | exact ⟨rfl, rfl⟩ | exact ⟨rfl, rfl, rfl⟩ | exact ⟨rfl, rfl, rfl, rfl⟩ | exact ⟨rfl, rfl, rfl, rfl, rfl⟩), fs, _, rfl, rfl, i3.mono (by omega), by simpa using i4⟩⟩
  | succ k =>
    obtain ⟨r, s1, c1, c2, c3, c4⟩ := hT _ (ls.length : Nat) _ i3 (by show _ ≤ (100000000 : Int); omega) (by omega) (by omega)
    obtain ⟨q4, rfl⟩ := c3.own
    have hr : r.toNat < ls.length := by omega
    have h1 := shaped_ints ls
    have h2 : PyData.eqv (.list (dI ls)) (.list []) = false := by
      cases ls with
      | nil => simp at i1
      | cons x l => simp [PyData.eqv, PyData.eqvAll]
    have g2 := map_erase ls r.toNat
    have g3 : fs.length < 16777216 := by omega
    have j1 : -9223372036854775808 ≤ r := by omega
    have j2 : r < 9223372036854775808 := by omega
    have j3 : ¬ (r < 0) := by omega
    refine .inr ⟨_, by simp [mVar_ap, mLit_ap, m2_ap, mB_ap, mAndT_ap, mOrT_ap, mNotT_ap, mAndV_ap, mOrV_ap, mNotV_ap, mIfE_ap, mNil_ap, mCons_ap, mDisp_ap, gSet_ap, gsNil_ap, gsCons_ap, gTupD_ap, mSet_ap, mAsg_ap, mPar_ap, mExpr_ap, mRet_ap, mRetN_ap, mNext_ap, mBreak_ap, mCont_ap, mSeq_ap, mIf_ap, iSeq_ap, iRan_ap, iRan2_ap, iEnm_ap, iZp_ap, mFor_ap, mWhile_ap, mCall_ap, mkD_ap, mLc_ap, fI_ap, fAdd_ap, fSub_ap, fMul_ap, fMod_ap, fDiv_ap, fPow_ap, fLt_ap, fLe_ap, fGt_ap, fGe_ap, fIsN_ap, fNotN_ap, fIsB_ap, fIx_ap, fAddX_ap, fSubX_ap, fMulX_ap, m1_ap, fNeg_ap, mB1_ap, fLen_ap, fAbs_ap, fInt_ap, fMin2_ap, fMax2_ap, fList_ap, fTuple_ap, fStr_ap, mMt_ap, mMtZ_ap, fAppend_ap, fInsert_ap, fExtend_ap, fPopAt_ap, mChain_ap, oNone_ap, oSome_ap, mSl_ap, gIx_ap, fInX_ap, fNotInX_ap, mIsi_ap, fEqX_ap, fNeX_ap, fAll_ap, fAny_ap, fSum_ap, fSorted_ap, fBest_ap, fIdx_ap, fRepr_ap, mPermA_ap, fBack_ap, gSplice_ap, mSortSet_ap, fMulY_ap, mTupRan_ap, mFz_ap, mGh_ap, fIsX_ap, mGhO_ap, ia_none_int, ia_none_bool, ia_none_list, ia_none_tuple, ia_none_str, ia_none_seq, ia_bool_int, ia_bool_bool, ia_bool_list, ia_bool_tuple, ia_bool_str, ia_bool_seq, ia_int_int, ia_int_bool, ia_int_list, ia_int_tuple, ia_int_str, ia_int_seq, ia_str_int, ia_str_bool, ia_str_list, ia_str_tuple, ia_str_str, ia_str_seq, ia_list_int, ia_list_bool, ia_list_list, ia_list_tuple, ia_list_str, ia_list_seq, ia_tuple_int, ia_tuple_bool, ia_tuple_list, ia_tuple_tuple, ia_tuple_str, ia_tuple_seq, mLst_ap, mTup_ap, mYes_ap, sizeLine_v, shaped_int, eqv_int, shaped_bool, eqv_bool, shaped_none, shaped_nilT, shaped_nilL, frz, frzAll, peek, res1, resAll, stoAll, argOf, argsOf, bors, wback, outAt, outsFrom, ownsStay, retv, wipeF, unwipe, sto, isNone, tyD, cY, cMul, cMod, cDiv, cPow, Cell.dat, b2n, frzS, frzL, fzV, atI, ixN, fMulL, h1, h2]; (try first | rfl | exact ⟨rfl, rfl⟩ | exact ⟨rfl, rfl, rfl⟩ | exact ⟨rfl, rfl, rfl, rfl⟩ | exact ⟨rfl, rfl, rfl, rfl, rfl⟩), wp_is (by simp [mVar_ap, mLit_ap, m2_ap, mB_ap, mAndT_ap, mOrT_ap, mNotT_ap, mAndV_ap, mOrV_ap, mNotV_ap, mIfE_ap, mNil_ap, mCons_ap, mDisp_ap, gSet_ap, gsNil_ap, gsCons_ap, gTupD_ap, mSet_ap, mAsg_ap, mPar_ap, mExpr_ap, mRet_ap, mRetN_ap, mNext_ap, mBreak_ap, mCont_ap, mSeq_ap, mIf_ap, iSeq_ap, iRan_ap, iRan2_ap, iEnm_ap, iZp_ap, mFor_ap, mWhile_ap, mCall_ap, mkD_ap, mLc_ap, fI_ap, fAdd_ap, fSub_ap, fMul_ap, fMod_ap, fDiv_ap, fPow_ap, fLt_ap, fLe_ap, fGt_ap, fGe_ap, fIsN_ap, fNotN_ap, fIsB_ap, fIx_ap, fAddX_ap, fSubX_ap, fMulX_ap, m1_ap, fNeg_ap, mB1_ap, fLen_ap, fAbs_ap, fInt_ap, fMin2_ap, fMax2_ap, fList_ap, fTuple_ap, fStr_ap, mMt_ap, mMtZ_ap, fAppend_ap, fInsert_ap, fExtend_ap, fPopAt_ap, mChain_ap, oNone_ap, oSome_ap, mSl_ap, gIx_ap, fInX_ap, fNotInX_ap, mIsi_ap, fEqX_ap, fNeX_ap, fAll_ap, fAny_ap, fSum_ap, fSorted_ap, fBest_ap, fIdx_ap, fRepr_ap, mPermA_ap, fBack_ap, gSplice_ap, mSortSet_ap, fMulY_ap, mTupRan_ap, mFz_ap, mGh_ap, fIsX_ap, mGhO_ap, ia_none_int, ia_none_bool, ia_none_list, ia_none_tuple, ia_none_str, ia_none_seq, ia_bool_int, ia_bool_bool, ia_bool_list, ia_bool_tuple, ia_bool_str, ia_bool_seq, ia_int_int, ia_int_bool, ia_int_list, ia_int_tuple, ia_int_str, ia_int_seq, ia_str_int, ia_str_bool, ia_str_list, ia_str_tuple, ia_str_str, ia_str_seq, ia_list_int, ia_list_bool, ia_list_list, ia_list_tuple, ia_list_str, ia_list_seq, ia_tuple_int, ia_tuple_bool, ia_tuple_list, ia_tuple_tuple, ia_tuple_str, ia_tuple_seq, mLst_ap, mTup_ap, mYes_ap, sizeLine_v, shaped_int, eqv_int, shaped_bool, eqv_bool, shaped_none, shaped_nilT, shaped_nilL, frz, frzAll, peek, res1, resAll, stoAll, argOf, argsOf, bors, wback, outAt, outsFrom, ownsStay, retv, wipeF, unwipe, sto, isNone, tyD, cY, cMul, cMod, cDiv, cPow, Cell.dat, b2n, frzS, frzL, fzV, atI, ixN, fMulL, c4, seqIndex?, j1, j2, j3, c1, c2, hr, g3, g2]; (try first | rfl | exact ⟨rfl, rfl⟩ | exact ⟨rfl, rfl, rfl⟩ | exact ⟨rfl, rfl, rfl, rfl⟩ | exact ⟨rfl, rfl, rfl, rfl, rfl⟩)) ⟨rfl, k, by omega, _, ls.eraseIdx r.toNat, fs ++ [ls[r.toNat]], by simp; (try first | rfl | exact ⟨rfl, rfl⟩ | exact ⟨rfl, rfl, rfl⟩ | exact ⟨rfl, rfl, rfl, rfl⟩ | exact ⟨rfl, rfl, rfl, rfl, rfl⟩), by rw [List.length_eraseIdx, if_pos hr]; omega, by omega, c3.mono (by omega), (perm_erase hr).trans i4⟩⟩
/-! a range around a size -/
def SpSpan (D : Dm) : Prop := ∀ (C v : Int) (s : S0) (gs : List Int), Bx C s → C + 30 ≤ BC → v ∈ gs → asc gs = true → gs.length ≤ 12 → (∀ x ∈ gs, 1 ≤ x ∧ x ≤ 200000000) → Ev D [s, .dat (.tuple (dI gs)), .dat (.int v)] fun r outs => ∃ p s', r = .dat (dPair p) ∧ outs = [s', .dat (.tuple (dI gs)), .dat (.int v)] ∧ Bx (C + 5) s' ∧ 1 ≤ p.1 ∧ p.1 ≤ v ∧ v ≤ p.2 ∧ p.2 ≤ 200000001
theorem sp_span {Tk : Dm} (hT : SpTake Tk) : SpSpan (B_span Tk) := by
  intro C v s gs hs hC hv ha hg hb
  have hC' : C + 30 ≤ 100000000 := hC
  have hk : gs.idxOf v < gs.length := List.idxOf_lt_length_of_mem hv
  have hgv : gs[gs.idxOf v] = v := List.getElem_idxOf hk
  generalize hK : gs.idxOf v = K at hk hgv
  obtain ⟨sl, s1, a1, a2, a3, a4⟩ := hT _ 5 s hs (by show _ ≤ (100000000 : Int); omega) (by omega) (by omega)
  obtain ⟨t2, s2, b1, b2, b3, b4⟩ := hT _ (sl + 1) s1 a3 (by show _ ≤ (100000000 : Int); omega) (by omega) (by omega)
  obtain ⟨m, hm⟩ : ∃ m : Int, m = (if sl < (K : Int) then sl else K) := ⟨_, rfl⟩
  have hm1 : 0 ≤ m ∧ m ≤ K := by rw [hm]; split <;> omega
  obtain ⟨la, hla⟩ : ∃ la : Int, la = (if (K : Int) + t2 < (gs.length : Int) - 1 then (K : Int) + t2 else (gs.length : Int) - 1) := ⟨_, rfl⟩
  have hla1 : K ≤ la ∧ la < gs.length := by rw [hla]; split <;> omega
  obtain ⟨t3, s3, c1, c2, c3, c4⟩ := hT _ ((K : Int) - (K - m) + 1) s2 b3 (by show _ ≤ (100000000 : Int); omega) (by omega) (by omega)
  obtain ⟨t4, s4, d1, d2, d3, d4⟩ := hT _ 2 s3 c3 (by show _ ≤ (100000000 : Int); omega) (by omega) (by omega)
  obtain ⟨t5, s5, e1, e2, e3, e4⟩ := hT _ 2 s4 d3 (by show _ ≤ (100000000 : Int); omega) (by omega) (by omega)
  have hi : (t3 + ((K : Int) - m)).toNat < gs.length := by omega
  have hj : la.toNat < gs.length := by omega
  have le1 : gs[(t3 + ((K : Int) - m)).toNat] ≤ v := by rw [← hgv]; exact asc_le (gs := gs) hk (by omega) ha
  have le2 : v ≤ gs[la.toNat] := by conv => lhs; rw [← hgv]
                                    exact asc_le (gs := gs) hj (by omega) ha
  have bo := hb _ (List.getElem_mem hi)
  have to := hb _ (List.getElem_mem hj)
  generalize hB : gs[(t3 + ((K : Int) - m)).toNat] = B at le1 bo
  generalize hT' : gs[la.toNat] = T at le2 to
  obtain ⟨q, rfl⟩ := hs.own
  obtain ⟨q1, rfl⟩ := a3.own
  obtain ⟨q2, rfl⟩ := b3.own
  obtain ⟨q3, rfl⟩ := c3.own
  obtain ⟨q4, rfl⟩ := d3.own
  obtain ⟨q5, rfl⟩ := e3.own
  have ix1 : atI (dI gs) (t3 + ((K : Int) - m)) = some (.int B) := by
    have x1 : 0 ≤ t3 + ((K : Int) - m) := by omega
    have x2 : t3 + ((K : Int) - m) < gs.length := by omega
    simp [atI, ixN, x1, x2, hi, hB]
  have ix2 : atI (dI gs) la = some (.int T) := by
    have x1 : 0 ≤ la := by omega
    have x2 : la < gs.length := by omega
    simp [atI, ixN, x1, x2, hj, hT']
  have hin : intsD (dI gs) = some gs := intsD_map gs
  have hl : (dI gs).length = gs.length := by simp
  generalize dI gs = ds at ix1 ix2 hin hl
  refine mkD_wp rfl (wp_gh (by simp [mVar_ap, mLit_ap, m2_ap, mB_ap, mAndT_ap, mOrT_ap, mNotT_ap, mAndV_ap, mOrV_ap, mNotV_ap, mIfE_ap, mNil_ap, mCons_ap, mDisp_ap, gSet_ap, gsNil_ap, gsCons_ap, gTupD_ap, mSet_ap, mAsg_ap, mPar_ap, mExpr_ap, mRet_ap, mRetN_ap, mNext_ap, mBreak_ap, mCont_ap, mSeq_ap, mIf_ap, iSeq_ap, iRan_ap, iRan2_ap, iEnm_ap, iZp_ap, mFor_ap, mWhile_ap, mCall_ap, mkD_ap, mLc_ap, fI_ap, fAdd_ap, fSub_ap, fMul_ap, fMod_ap, fDiv_ap, fPow_ap, fLt_ap, fLe_ap, fGt_ap, fGe_ap, fIsN_ap, fNotN_ap, fIsB_ap, fIx_ap, fAddX_ap, fSubX_ap, fMulX_ap, m1_ap, fNeg_ap, mB1_ap, fLen_ap, fAbs_ap, fInt_ap, fMin2_ap, fMax2_ap, fList_ap, fTuple_ap, fStr_ap, mMt_ap, mMtZ_ap, fAppend_ap, fInsert_ap, fExtend_ap, fPopAt_ap, mChain_ap, oNone_ap, oSome_ap, mSl_ap, gIx_ap, fInX_ap, fNotInX_ap, mIsi_ap, fEqX_ap, fNeX_ap, fAll_ap, fAny_ap, fSum_ap, fSorted_ap, fBest_ap, fIdx_ap, fRepr_ap, mPermA_ap, fBack_ap, gSplice_ap, mSortSet_ap, fMulY_ap, mTupRan_ap, mFz_ap, mGh_ap, fIsX_ap, mGhO_ap, ia_none_int, ia_none_bool, ia_none_list, ia_none_tuple, ia_none_str, ia_none_seq, ia_bool_int, ia_bool_bool, ia_bool_list, ia_bool_tuple, ia_bool_str, ia_bool_seq, ia_int_int, ia_int_bool, ia_int_list, ia_int_tuple, ia_int_str, ia_int_seq, ia_str_int, ia_str_bool, ia_str_list, ia_str_tuple, ia_str_str, ia_str_seq, ia_list_int, ia_list_bool, ia_list_list, ia_list_tuple, ia_list_str, ia_list_seq, ia_tuple_int, ia_tuple_bool, ia_tuple_list, ia_tuple_tuple, ia_tuple_str, ia_tuple_seq, mLst_ap, mTup_ap, mYes_ap, sizeLine_v, shaped_int, eqv_int, shaped_bool, eqv_bool, shaped_none, shaped_nilT, shaped_nilL, frz, frzAll, peek, res1, resAll, stoAll, argOf, argsOf, bors, wback, outAt, outsFrom, ownsStay, retv, wipeF, unwipe, sto, isNone, tyD, cY, cMul, cMod, cDiv, cPow, Cell.dat, b2n, frzS, frzL, fzV, fMulL, mIndex_ap, a4, hin, hv, hK]; (try first | rfl | exact ⟨rfl, rfl⟩ | exact ⟨rfl, rfl, rfl⟩ | exact ⟨rfl, rfl, rfl, rfl⟩ | exact ⟨rfl, rfl, rfl, rfl, rfl⟩)) (wp_gh (by simp [mVar_ap, mLit_ap, m2_ap, mB_ap, mAndT_ap, mOrT_ap, mNotT_ap, mAndV_ap, mOrV_ap, mNotV_ap, mIfE_ap, mNil_ap, mCons_ap, mDisp_ap, gSet_ap, gsNil_ap, gsCons_ap, gTupD_ap, mSet_ap, mAsg_ap, mPar_ap, mExpr_ap, mRet_ap, mRetN_ap, mNext_ap, mBreak_ap, mCont_ap, mSeq_ap, mIf_ap, iSeq_ap, iRan_ap, iRan2_ap, iEnm_ap, iZp_ap, mFor_ap, mWhile_ap, mCall_ap, mkD_ap, mLc_ap, fI_ap, fAdd_ap, fSub_ap, fMul_ap, fMod_ap, fDiv_ap, fPow_ap, fLt_ap, fLe_ap, fGt_ap, fGe_ap, fIsN_ap, fNotN_ap, fIsB_ap, fIx_ap, fAddX_ap, fSubX_ap, fMulX_ap, m1_ap, fNeg_ap, mB1_ap, fLen_ap, fAbs_ap, fInt_ap, fMin2_ap, fMax2_ap, fList_ap, fTuple_ap, fStr_ap, mMt_ap, mMtZ_ap, fAppend_ap, fInsert_ap, fExtend_ap, fPopAt_ap, mChain_ap, oNone_ap, oSome_ap, mSl_ap, gIx_ap, fInX_ap, fNotInX_ap, mIsi_ap, fEqX_ap, fNeX_ap, fAll_ap, fAny_ap, fSum_ap, fSorted_ap, fBest_ap, fIdx_ap, fRepr_ap, mPermA_ap, fBack_ap, gSplice_ap, mSortSet_ap, fMulY_ap, mTupRan_ap, mFz_ap, mGh_ap, fIsX_ap, mGhO_ap, ia_none_int, ia_none_bool, ia_none_list, ia_none_tuple, ia_none_str, ia_none_seq, ia_bool_int, ia_bool_bool, ia_bool_list, ia_bool_tuple, ia_bool_str, ia_bool_seq, ia_int_int, ia_int_bool, ia_int_list, ia_int_tuple, ia_int_str, ia_int_seq, ia_str_int, ia_str_bool, ia_str_list, ia_str_tuple, ia_str_str, ia_str_seq, ia_list_int, ia_list_bool, ia_list_list, ia_list_tuple, ia_list_str, ia_list_seq, ia_tuple_int, ia_tuple_bool, ia_tuple_list, ia_tuple_tuple, ia_tuple_str, ia_tuple_seq, mLst_ap, mTup_ap, mYes_ap, sizeLine_v, shaped_int, eqv_int, shaped_bool, eqv_bool, shaped_none, shaped_nilT, shaped_nilL, frz, frzAll, peek, res1, resAll, stoAll, argOf, argsOf, bors, wback, outAt, outsFrom, ownsStay, retv, wipeF, unwipe, sto, isNone, tyD, cY, cMul, cMod, cDiv, cPow, Cell.dat, b2n, frzS, frzL, fzV, fMulL, b4, hl, ← hm, ← hla]; (try first | rfl | exact ⟨rfl, rfl⟩ | exact ⟨rfl, rfl, rfl⟩ | exact ⟨rfl, rfl, rfl, rfl⟩ | exact ⟨rfl, rfl, rfl, rfl, rfl⟩)) (wp_nx (by simp [mVar_ap, mLit_ap, m2_ap, mB_ap, mAndT_ap, mOrT_ap, mNotT_ap, mAndV_ap, mOrV_ap, mNotV_ap, mIfE_ap, mNil_ap, mCons_ap, mDisp_ap, gSet_ap, gsNil_ap, gsCons_ap, gTupD_ap, mSet_ap, mAsg_ap, mPar_ap, mExpr_ap, mRet_ap, mRetN_ap, mNext_ap, mBreak_ap, mCont_ap, mSeq_ap, mIf_ap, iSeq_ap, iRan_ap, iRan2_ap, iEnm_ap, iZp_ap, mFor_ap, mWhile_ap, mCall_ap, mkD_ap, mLc_ap, fI_ap, fAdd_ap, fSub_ap, fMul_ap, fMod_ap, fDiv_ap, fPow_ap, fLt_ap, fLe_ap, fGt_ap, fGe_ap, fIsN_ap, fNotN_ap, fIsB_ap, fIx_ap, fAddX_ap, fSubX_ap, fMulX_ap, m1_ap, fNeg_ap, mB1_ap, fLen_ap, fAbs_ap, fInt_ap, fMin2_ap, fMax2_ap, fList_ap, fTuple_ap, fStr_ap, mMt_ap, mMtZ_ap, fAppend_ap, fInsert_ap, fExtend_ap, fPopAt_ap, mChain_ap, oNone_ap, oSome_ap, mSl_ap, gIx_ap, fInX_ap, fNotInX_ap, mIsi_ap, fEqX_ap, fNeX_ap, fAll_ap, fAny_ap, fSum_ap, fSorted_ap, fBest_ap, fIdx_ap, fRepr_ap, mPermA_ap, fBack_ap, gSplice_ap, mSortSet_ap, fMulY_ap, mTupRan_ap, mFz_ap, mGh_ap, fIsX_ap, mGhO_ap, ia_none_int, ia_none_bool, ia_none_list, ia_none_tuple, ia_none_str, ia_none_seq, ia_bool_int, ia_bool_bool, ia_bool_list, ia_bool_tuple, ia_bool_str, ia_bool_seq, ia_int_int, ia_int_bool, ia_int_list, ia_int_tuple, ia_int_str, ia_int_seq, ia_str_int, ia_str_bool, ia_str_list, ia_str_tuple, ia_str_str, ia_str_seq, ia_list_int, ia_list_bool, ia_list_list, ia_list_tuple, ia_list_str, ia_list_seq, ia_tuple_int, ia_tuple_bool, ia_tuple_list, ia_tuple_tuple, ia_tuple_str, ia_tuple_seq, mLst_ap, mTup_ap, mYes_ap, sizeLine_v, shaped_int, eqv_int, shaped_bool, eqv_bool, shaped_none, shaped_nilT, shaped_nilL, frz, frzAll, peek, res1, resAll, stoAll, argOf, argsOf, bors, wback, outAt, outsFrom, ownsStay, retv, wipeF, unwipe, sto, isNone, tyD, cY, cMul, cMod, cDiv, cPow, Cell.dat, b2n, frzS, frzL, fzV, fMulL, c4, ix1, ix2]; (try first | rfl | exact ⟨rfl, rfl⟩ | exact ⟨rfl, rfl, rfl⟩ | exact ⟨rfl, rfl, rfl, rfl⟩ | exact ⟨rfl, rfl, rfl, rfl, rfl⟩)) (wp_is (by simp [mVar_ap, mLit_ap, m2_ap, mB_ap, mAndT_ap, mOrT_ap, mNotT_ap, mAndV_ap, mOrV_ap, mNotV_ap, mIfE_ap, mNil_ap, mCons_ap, mDisp_ap, gSet_ap, gsNil_ap, gsCons_ap, gTupD_ap, mSet_ap, mAsg_ap, mPar_ap, mExpr_ap, mRet_ap, mRetN_ap, mNext_ap, mBreak_ap, mCont_ap, mSeq_ap, mIf_ap, iSeq_ap, iRan_ap, iRan2_ap, iEnm_ap, iZp_ap, mFor_ap, mWhile_ap, mCall_ap, mkD_ap, mLc_ap, fI_ap, fAdd_ap, fSub_ap, fMul_ap, fMod_ap, fDiv_ap, fPow_ap, fLt_ap, fLe_ap, fGt_ap, fGe_ap, fIsN_ap, fNotN_ap, fIsB_ap, fIx_ap, fAddX_ap, fSubX_ap, fMulX_ap, m1_ap, fNeg_ap, mB1_ap, fLen_ap, fAbs_ap, fInt_ap, fMin2_ap, fMax2_ap, fList_ap, fTuple_ap, fStr_ap, mMt_ap, mMtZ_ap, fAppend_ap, fInsert_ap, fExtend_ap, fPopAt_ap, mChain_ap, oNone_ap, oSome_ap, mSl_ap, gIx_ap, fInX_ap, fNotInX_ap, mIsi_ap, fEqX_ap, fNeX_ap, fAll_ap, fAny_ap, fSum_ap, fSorted_ap, fBest_ap, fIdx_ap, fRepr_ap, mPermA_ap, fBack_ap, gSplice_ap, mSortSet_ap, fMulY_ap, mTupRan_ap, mFz_ap, mGh_ap, fIsX_ap, mGhO_ap, ia_none_int, ia_none_bool, ia_none_list, ia_none_tuple, ia_none_str, ia_none_seq, ia_bool_int, ia_bool_bool, ia_bool_list, ia_bool_tuple, ia_bool_str, ia_bool_seq, ia_int_int, ia_int_bool, ia_int_list, ia_int_tuple, ia_int_str, ia_int_seq, ia_str_int, ia_str_bool, ia_str_list, ia_str_tuple, ia_str_str, ia_str_seq, ia_list_int, ia_list_bool, ia_list_list, ia_list_tuple, ia_list_str, ia_list_seq, ia_tuple_int, ia_tuple_bool, ia_tuple_list, ia_tuple_tuple, ia_tuple_str, ia_tuple_seq, mLst_ap, mTup_ap, mYes_ap, sizeLine_v, shaped_int, eqv_int, shaped_bool, eqv_bool, shaped_none, shaped_nilT, shaped_nilL, frz, frzAll, peek, res1, resAll, stoAll, argOf, argsOf, bors, wback, outAt, outsFrom, ownsStay, retv, wipeF, unwipe, sto, isNone, tyD, cY, cMul, cMod, cDiv, cPow, Cell.dat, b2n, frzS, frzL, fzV, fMulL, d4, e4]; (try first | rfl | exact ⟨rfl, rfl⟩ | exact ⟨rfl, rfl, rfl⟩ | exact ⟨rfl, rfl, rfl, rfl⟩ | exact ⟨rfl, rfl, rfl, rfl, rfl⟩)) ⟨_, _, _, _, rfl, rfl, by simp [mVar_ap, mLit_ap, m2_ap, mB_ap, mAndT_ap, mOrT_ap, mNotT_ap, mAndV_ap, mOrV_ap, mNotV_ap, mIfE_ap, mNil_ap, mCons_ap, mDisp_ap, gSet_ap, gsNil_ap, gsCons_ap, gTupD_ap, mSet_ap, mAsg_ap, mPar_ap, mExpr_ap, mRet_ap, mRetN_ap, mNext_ap, mBreak_ap, mCont_ap, mSeq_ap, mIf_ap, iSeq_ap, iRan_ap, iRan2_ap, iEnm_ap, iZp_ap, mFor_ap, mWhile_ap, mCall_ap, mkD_ap, mLc_ap, fI_ap, fAdd_ap, fSub_ap, fMul_ap, fMod_ap, fDiv_ap, fPow_ap, fLt_ap, fLe_ap, fGt_ap, fGe_ap, fIsN_ap, fNotN_ap, fIsB_ap, fIx_ap, fAddX_ap, fSubX_ap, fMulX_ap, m1_ap, fNeg_ap, mB1_ap, fLen_ap, fAbs_ap, fInt_ap, fMin2_ap, fMax2_ap, fList_ap, fTuple_ap, fStr_ap, mMt_ap, mMtZ_ap, fAppend_ap, fInsert_ap, fExtend_ap, fPopAt_ap, mChain_ap, oNone_ap, oSome_ap, mSl_ap, gIx_ap, fInX_ap, fNotInX_ap, mIsi_ap, fEqX_ap, fNeX_ap, fAll_ap, fAny_ap, fSum_ap, fSorted_ap, fBest_ap, fIdx_ap, fRepr_ap, mPermA_ap, fBack_ap, gSplice_ap, mSortSet_ap, fMulY_ap, mTupRan_ap, mFz_ap, mGh_ap, fIsX_ap, mGhO_ap, ia_none_int, ia_none_bool, ia_none_list, ia_none_tuple, ia_none_str, ia_none_seq, ia_bool_int, ia_bool_bool, ia_bool_list, ia_bool_tuple, ia_bool_str, ia_bool_seq, ia_int_int, ia_int_bool, ia_int_list, ia_int_tuple, ia_int_str, ia_int_seq, ia_str_int, ia_str_bool, ia_str_list, ia_str_tuple, ia_str_str, ia_str_seq, ia_list_int, ia_list_bool, ia_list_list, ia_list_tuple, ia_list_str, ia_list_seq, ia_tuple_int, ia_tuple_bool, ia_tuple_list, ia_tuple_tuple, ia_tuple_str, ia_tuple_seq, mLst_ap, mTup_ap, mYes_ap, sizeLine_v, shaped_int, eqv_int, shaped_bool, eqv_bool, shaped_none, shaped_nilT, shaped_nilL, frz, frzAll, peek, res1, resAll, stoAll, argOf, argsOf, bors, wback, outAt, outsFrom, ownsStay, retv, wipeF, unwipe, sto, isNone, tyD, cY, cMul, cMod, cDiv, cPow, Cell.dat, b2n, frzS, frzL, fzV, fMulL]; (try first | rfl | exact ⟨rfl, rfl⟩ | exact ⟨rfl, rfl, rfl⟩ | exact ⟨rfl, rfl, rfl, rfl⟩ | exact ⟨rfl, rfl, rfl, rfl, rfl⟩), (B - (if t4 < B - 1 then t4 else B - 1), T + t5), _, rfl, rfl, e3.mono (by omega), by dsimp only; split <;> omega, by dsimp only; split <;> omega, by dsimp only; omega, by dsimp only; omega⟩))))
/-! shops and settings -/
structure Shop where
  sizes : List Int
  ranges : List (Int × Int)
def dShop (S : Shop) : PyData := .tuple [.tuple (dI S.sizes), .tuple (S.ranges.map dPair)]
/-- within a width -/
structure ShopOk (M N : Nat) (S : Shop) : Prop where
  s0 : S.sizes ≠ []
  sN : S.sizes.length ≤ N
  sa : asc S.sizes = true
  sb : ∀ x ∈ S.sizes, 1 ≤ x ∧ x ≤ 200000000
  r0 : S.ranges ≠ []
  rM : S.ranges.length ≤ M
  rb : ∀ p ∈ S.ranges, 1 ≤ p.1 ∧ p.1 ≤ p.2 ∧ p.2 ≤ 200000001
structure Stand (S : Shop) (st : List Int) : Prop where
  len : st.length = S.ranges.length
  mem : ∀ x ∈ st, x ∈ S.sizes
  nd : st.Nodup
  fit : ∀ (j : Nat) (x : Int) (p : Int × Int), st[j]? = some x → S.ranges[j]? = some p → p.1 ≤ x ∧ x ≤ p.2
theorem cut_first {ds : List PyData} {c : Int} (h0 : 0 ≤ c) : Rf.cutD ds none (some c) = ds.take c.toNat := by
  have e1 : HT.sIx ds.length 0 none = 0 := rfl
  have e2 : HT.sIx ds.length ds.length (some c) = min c.toNat ds.length := by simp only [HT.sIx]; rw [if_neg (by omega)]; try omega
  simp only [Rf.cutD, e1, e2, List.drop_zero, Nat.sub_zero]
  rcases Nat.le_total c.toNat ds.length with h | h
  · rw [Nat.min_eq_left h]
  · rw [Nat.min_eq_right h, List.take_of_length_le (Nat.le_refl _), List.take_of_length_le h]
def SpPlant (D : Dm) : Prop := ∀ (C : Int) (M N : Nat) (s : S0), Bx C s → C + 200 ≤ BC → 1 ≤ M → M ≤ N → N ≤ 12 → Ev D [s, .dat (.int (M : Nat)), .dat (.int (N : Nat))] fun r outs => ∃ S st s', r = .dat (.tuple [dShop S, .tuple (dI st)]) ∧ outs = [s', .dat (.int (M : Nat)), .dat (.int (N : Nat))] ∧ Bx (C + 100) s' ∧ ShopOk M N S ∧ Stand S st
theorem sp_plant {Tk G Sh Sn : Dm} (hT : SpTake Tk) (hG : SpGauges G) (hS : SpShuffled Sh) (hN : SpSpan Sn) : SpPlant (B_plant Tk G Sh Sn) := by
  intro C M N s hs hC hM hMN hN12
  have hC' : C + 200 ≤ 100000000 := hC
  obtain ⟨r, s1, a1, a2, a3, a4⟩ := hT _ (M : Nat) s hs (by show _ ≤ (100000000 : Int); omega) (by omega) (by omega)
  obtain ⟨u, s2, b1, b2, b3, b4⟩ := hT _ ((N : Nat) - (1 + r) + 1) s1 a3 (by show _ ≤ (100000000 : Int); omega) (by omega) (by omega)
  obtain ⟨T, hTe⟩ : ∃ T : Int, T = (if 1 + r + u < (N : Nat) then 1 + r + u else (N : Nat)) := ⟨_, rfl⟩
  have hT1 : 1 + r ≤ T ∧ T ≤ (N : Nat) := by rw [hTe]; split <;> omega
  obtain ⟨_, _, c1, gs, s3, rfl, rfl, c2, c3, c4, c5⟩ := hG _ T s2 b3 (by show _ ≤ (100000000 : Int); omega) (by omega) (by omega)
  obtain ⟨_, _, d1, ps, s4, rfl, rfl, d2, d3⟩ := hS _ s3 gs c2 (by show _ ≤ (100000000 : Int); omega) (by omega)
  have hpl := d3.length_eq
  obtain ⟨st, hst⟩ : ∃ st, st = ps.take (1 + r).toNat := ⟨_, rfl⟩
  have hcut : Rf.cutD (dI ps) none (some (1 + r)) = dI st := by rw [cut_first (by omega), hst]; exact (List.map_take).symm
  have hsl : (st.length : Int) = 1 + r := by rw [hst, List.length_take]; omega
  have hsm : ∀ x ∈ st, x ∈ gs := fun x m => d3.mem_iff.1 (List.mem_of_mem_take (by rw [← hst]; exact m))
  have hsn : st.Nodup := by rw [hst]; exact List.Nodup.sublist (List.take_sublist _ _) (d3.nodup_iff.2 (nodup_of_asc c4))
  obtain ⟨q, rfl⟩ := hs.own
  obtain ⟨q1, rfl⟩ := a3.own
  obtain ⟨q2, rfl⟩ := b3.own
  obtain ⟨q3, rfl⟩ := c2.own
  obtain ⟨q4, rfl⟩ := d2.own
  obtain ⟨out, fm', e1, e2, e3, s5, rfl, hs5⟩ := comp_inv (g := gSet 6) (me := mCall Sn (mFz (mCons (mVar 0) (mCons (mVar 4) (mCons (mVar 6) mNil))))) (vs := [6]) (fun k fm => ∃ s, fm = [some s, some (.dat (.int (M : Nat))), some (.dat (.int (N : Nat))), some (.dat (.int (1 + r))), some (.dat (.tuple (dI gs))), some (.dat (.tuple (dI st))), none] ∧ Bx (C + 28 + 5 * k) s) (fun k x => ∃ p : Int × Int, x = dPair p ∧ 1 ≤ p.1 ∧ p.2 ≤ 200000001 ∧ ∀ v, st[k]? = some v → p.1 ≤ v ∧ v ≤ p.2) (dI st) [] 0 [some (.own (.lst q4)), some (.dat (.int (M : Nat))), some (.dat (.int (N : Nat))), some (.dat (.int (1 + r))), some (.dat (.tuple (dI gs))), some (.dat (.tuple (dI st))), none] (by
    intro j d m fm i
    rw [Nat.zero_add] at i ⊢
    obtain ⟨s, rfl, i1⟩ := i
    rw [List.getElem?_map] at m
    obtain ⟨v, hv, rfl⟩ := Option.map_eq_some_iff.1 m
    have hjl := (List.getElem?_eq_some_iff.1 hv).1
    obtain ⟨_, _, f1, p, s', rfl, rfl, f2, f3, f4, f5, f6⟩ := hN _ v s gs i1 (by show _ ≤ (100000000 : Int); omega) (hsm v (List.mem_of_getElem? hv)) c4 (by omega) c5
    obtain ⟨q, rfl⟩ := i1.own
    obtain ⟨q', rfl⟩ := f2.own
    refine ⟨_, .dat (dPair p), _, _, _, rfl, by simp [mVar_ap, mLit_ap, m2_ap, mB_ap, mAndT_ap, mOrT_ap, mNotT_ap, mAndV_ap, mOrV_ap, mNotV_ap, mIfE_ap, mNil_ap, mCons_ap, mDisp_ap, gSet_ap, gsNil_ap, gsCons_ap, gTupD_ap, mSet_ap, mAsg_ap, mPar_ap, mExpr_ap, mRet_ap, mRetN_ap, mNext_ap, mBreak_ap, mCont_ap, mSeq_ap, mIf_ap, iSeq_ap, iRan_ap, iRan2_ap, iEnm_ap, iZp_ap, mFor_ap, mWhile_ap, mCall_ap, mkD_ap, mLc_ap, fI_ap, fAdd_ap, fSub_ap, fMul_ap, fMod_ap, fDiv_ap, fPow_ap, fLt_ap, fLe_ap, fGt_ap, fGe_ap, fIsN_ap, fNotN_ap, fIsB_ap, fIx_ap, fAddX_ap, fSubX_ap, fMulX_ap, m1_ap, fNeg_ap, mB1_ap, fLen_ap, fAbs_ap, fInt_ap, fMin2_ap, fMax2_ap, fList_ap, fTuple_ap, fStr_ap, mMt_ap, mMtZ_ap, fAppend_ap, fInsert_ap, fExtend_ap, fPopAt_ap, mChain_ap, oNone_ap, oSome_ap, mSl_ap, gIx_ap, fInX_ap, fNotInX_ap, mIsi_ap, fEqX_ap, fNeX_ap, fAll_ap, fAny_ap, fSum_ap, fSorted_ap, fBest_ap, fIdx_ap, fRepr_ap, mPermA_ap, fBack_ap, gSplice_ap, mSortSet_ap, fMulY_ap, mTupRan_ap, mFz_ap, mGh_ap, fIsX_ap, mGhO_ap, ia_none_int, ia_none_bool, ia_none_list, ia_none_tuple, ia_none_str, ia_none_seq, ia_bool_int, ia_bool_bool, ia_bool_list, ia_bool_tuple, ia_bool_str, ia_bool_seq, ia_int_int, ia_int_bool, ia_int_list, ia_int_tuple, ia_int_str, ia_int_seq, ia_str_int, ia_str_bool, ia_str_list, ia_str_tuple, ia_str_str, ia_str_seq, ia_list_int, ia_list_bool, ia_list_list, ia_list_tuple, ia_list_str, ia_list_seq, ia_tuple_int, ia_tuple_bool, ia_tuple_list, ia_tuple_tuple, ia_tuple_str, ia_tuple_seq, mLst_ap, mTup_ap, mYes_ap, sizeLine_v, shaped_int, eqv_int, shaped_bool, eqv_bool, shaped_none, shaped_nilT, shaped_nilL, frz, frzAll, peek, res1, resAll, stoAll, argOf, argsOf, bors, wback, outAt, outsFrom, ownsStay, retv, wipeF, unwipe, sto, isNone, tyD, cY, cMul, cMod, cDiv, cPow, Cell.dat, b2n, frzS, frzL, fzV, fMulL, f1]; (try first | rfl | exact ⟨rfl, rfl⟩ | exact ⟨rfl, rfl, rfl⟩ | exact ⟨rfl, rfl, rfl, rfl⟩ | exact ⟨rfl, rfl, rfl, rfl, rfl⟩), rfl, ⟨p, rfl, f3, f6, fun w hw => ?_⟩, _, by simp [wipeF]; (try first | rfl | exact ⟨rfl, rfl⟩ | exact ⟨rfl, rfl, rfl⟩ | exact ⟨rfl, rfl, rfl, rfl⟩ | exact ⟨rfl, rfl, rfl, rfl, rfl⟩), f2.mono (by omega)⟩
    rw [hv] at hw; cases hw; exact ⟨f4, f5⟩) ⟨_, rfl, d2.mono (by omega)⟩ (by rw [sizeLine_v]; simp; omega)
  simp only [List.nil_append, List.length_map] at e1 e2 e3 hs5
  obtain ⟨ps', hps⟩ : ∃ ps' : List (Int × Int), out = ps'.map dPair := by
    have : ∀ x ∈ out, ∃ p, x = dPair p := fun x m => by
      obtain ⟨j, hj⟩ := List.getElem?_of_mem m
      obtain ⟨p, hp, _⟩ := e3 j x hj
      exact ⟨p, hp⟩
    clear e1 e2 e3
    induction out with
    | nil => exact ⟨[], rfl⟩
    | cons x out ih =>
      obtain ⟨p, rfl⟩ := this x (by simp)
      obtain ⟨ps', rfl⟩ := ih fun x m => this x (by simp [m])
      exact ⟨p :: ps', rfl⟩
  subst hps
  simp only [List.length_map] at e2
  have pinj : ∀ {p p' : Int × Int}, dPair p = dPair p' → p = p' := fun {p p'} h => by
    simp only [dPair, PyData.tuple.injEq, List.cons.injEq, PyData.int.injEq, and_true] at h
    exact Prod.ext h.1 h.2
  have e4 : ∀ (j : Nat) (p : Int × Int), ps'[j]? = some p → 1 ≤ p.1 ∧ p.2 ≤ 200000001 ∧ ∀ v, st[j]? = some v → p.1 ≤ v ∧ v ≤ p.2 := fun j p hj => by
    obtain ⟨p', h1, h2, h3, h4⟩ := e3 j (dPair p) (by rw [List.getElem?_map, hj]; rfl)
    cases pinj h1
    rw [Nat.zero_add] at h4
    exact ⟨h2, h3, h4⟩
  refine mkD_wp rfl (wp_gh (by simp [mVar_ap, mLit_ap, m2_ap, mB_ap, mAndT_ap, mOrT_ap, mNotT_ap, mAndV_ap, mOrV_ap, mNotV_ap, mIfE_ap, mNil_ap, mCons_ap, mDisp_ap, gSet_ap, gsNil_ap, gsCons_ap, gTupD_ap, mSet_ap, mAsg_ap, mPar_ap, mExpr_ap, mRet_ap, mRetN_ap, mNext_ap, mBreak_ap, mCont_ap, mSeq_ap, mIf_ap, iSeq_ap, iRan_ap, iRan2_ap, iEnm_ap, iZp_ap, mFor_ap, mWhile_ap, mCall_ap, mkD_ap, mLc_ap, fI_ap, fAdd_ap, fSub_ap, fMul_ap, fMod_ap, fDiv_ap, fPow_ap, fLt_ap, fLe_ap, fGt_ap, fGe_ap, fIsN_ap, fNotN_ap, fIsB_ap, fIx_ap, fAddX_ap, fSubX_ap, fMulX_ap, m1_ap, fNeg_ap, mB1_ap, fLen_ap, fAbs_ap, fInt_ap, fMin2_ap, fMax2_ap, fList_ap, fTuple_ap, fStr_ap, mMt_ap, mMtZ_ap, fAppend_ap, fInsert_ap, fExtend_ap, fPopAt_ap, mChain_ap, oNone_ap, oSome_ap, mSl_ap, gIx_ap, fInX_ap, fNotInX_ap, mIsi_ap, fEqX_ap, fNeX_ap, fAll_ap, fAny_ap, fSum_ap, fSorted_ap, fBest_ap, fIdx_ap, fRepr_ap, mPermA_ap, fBack_ap, gSplice_ap, mSortSet_ap, fMulY_ap, mTupRan_ap, mFz_ap, mGh_ap, fIsX_ap, mGhO_ap, ia_none_int, ia_none_bool, ia_none_list, ia_none_tuple, ia_none_str, ia_none_seq, ia_bool_int, ia_bool_bool, ia_bool_list, ia_bool_tuple, ia_bool_str, ia_bool_seq, ia_int_int, ia_int_bool, ia_int_list, ia_int_tuple, ia_int_str, ia_int_seq, ia_str_int, ia_str_bool, ia_str_list, ia_str_tuple, ia_str_str, ia_str_seq, ia_list_int, ia_list_bool, ia_list_list, ia_list_tuple, ia_list_str, ia_list_seq, ia_tuple_int, ia_tuple_bool, ia_tuple_list, ia_tuple_tuple, ia_tuple_str, ia_tuple_seq, mLst_ap, mTup_ap, mYes_ap, sizeLine_v, shaped_int, eqv_int, shaped_bool, eqv_bool, shaped_none, shaped_nilT, shaped_nilL, frz, frzAll, peek, res1, resAll, stoAll, argOf, argsOf, bors, wback, outAt, outsFrom, ownsStay, retv, wipeF, unwipe, sto, isNone, tyD, cY, cMul, cMod, cDiv, cPow, Cell.dat, b2n, frzS, frzL, fzV, fMulL, a4]; (try first | rfl | exact ⟨rfl, rfl⟩ | exact ⟨rfl, rfl, rfl⟩ | exact ⟨rfl, rfl, rfl, rfl⟩ | exact ⟨rfl, rfl, rfl, rfl, rfl⟩)) (wp_gh (by simp [mVar_ap, mLit_ap, m2_ap, mB_ap, mAndT_ap, mOrT_ap, mNotT_ap, mAndV_ap, mOrV_ap, mNotV_ap, mIfE_ap, mNil_ap, mCons_ap, mDisp_ap, gSet_ap, gsNil_ap, gsCons_ap, gTupD_ap, mSet_ap, mAsg_ap, mPar_ap, mExpr_ap, mRet_ap, mRetN_ap, mNext_ap, mBreak_ap, mCont_ap, mSeq_ap, mIf_ap, iSeq_ap, iRan_ap, iRan2_ap, iEnm_ap, iZp_ap, mFor_ap, mWhile_ap, mCall_ap, mkD_ap, mLc_ap, fI_ap, fAdd_ap, fSub_ap, fMul_ap, fMod_ap, fDiv_ap, fPow_ap, fLt_ap, fLe_ap, fGt_ap, fGe_ap, fIsN_ap, fNotN_ap, fIsB_ap, fIx_ap, fAddX_ap, fSubX_ap, fMulX_ap, m1_ap, fNeg_ap, mB1_ap, fLen_ap, fAbs_ap, fInt_ap, fMin2_ap, fMax2_ap, fList_ap, fTuple_ap, fStr_ap, mMt_ap, mMtZ_ap, fAppend_ap, fInsert_ap, fExtend_ap, fPopAt_ap, mChain_ap, oNone_ap, oSome_ap, mSl_ap, gIx_ap, fInX_ap, fNotInX_ap, mIsi_ap, fEqX_ap, fNeX_ap, fAll_ap, fAny_ap, fSum_ap, fSorted_ap, fBest_ap, fIdx_ap, fRepr_ap, mPermA_ap, fBack_ap, gSplice_ap, mSortSet_ap, fMulY_ap, mTupRan_ap, mFz_ap, mGh_ap, fIsX_ap, mGhO_ap, ia_none_int, ia_none_bool, ia_none_list, ia_none_tuple, ia_none_str, ia_none_seq, ia_bool_int, ia_bool_bool, ia_bool_list, ia_bool_tuple, ia_bool_str, ia_bool_seq, ia_int_int, ia_int_bool, ia_int_list, ia_int_tuple, ia_int_str, ia_int_seq, ia_str_int, ia_str_bool, ia_str_list, ia_str_tuple, ia_str_str, ia_str_seq, ia_list_int, ia_list_bool, ia_list_list, ia_list_tuple, ia_list_str, ia_list_seq, ia_tuple_int, ia_tuple_bool, ia_tuple_list, ia_tuple_tuple, ia_tuple_str, ia_tuple_seq, mLst_ap, mTup_ap, mYes_ap, sizeLine_v, shaped_int, eqv_int, shaped_bool, eqv_bool, shaped_none, shaped_nilT, shaped_nilL, frz, frzAll, peek, res1, resAll, stoAll, argOf, argsOf, bors, wback, outAt, outsFrom, ownsStay, retv, wipeF, unwipe, sto, isNone, tyD, cY, cMul, cMod, cDiv, cPow, Cell.dat, b2n, frzS, frzL, fzV, fMulL, b4, ← hTe, c1]; (try first | rfl | exact ⟨rfl, rfl⟩ | exact ⟨rfl, rfl, rfl⟩ | exact ⟨rfl, rfl, rfl, rfl⟩ | exact ⟨rfl, rfl, rfl, rfl, rfl⟩)) (wp_gh (by simp [mVar_ap, mLit_ap, m2_ap, mB_ap, mAndT_ap, mOrT_ap, mNotT_ap, mAndV_ap, mOrV_ap, mNotV_ap, mIfE_ap, mNil_ap, mCons_ap, mDisp_ap, gSet_ap, gsNil_ap, gsCons_ap, gTupD_ap, mSet_ap, mAsg_ap, mPar_ap, mExpr_ap, mRet_ap, mRetN_ap, mNext_ap, mBreak_ap, mCont_ap, mSeq_ap, mIf_ap, iSeq_ap, iRan_ap, iRan2_ap, iEnm_ap, iZp_ap, mFor_ap, mWhile_ap, mCall_ap, mkD_ap, mLc_ap, fI_ap, fAdd_ap, fSub_ap, fMul_ap, fMod_ap, fDiv_ap, fPow_ap, fLt_ap, fLe_ap, fGt_ap, fGe_ap, fIsN_ap, fNotN_ap, fIsB_ap, fIx_ap, fAddX_ap, fSubX_ap, fMulX_ap, m1_ap, fNeg_ap, mB1_ap, fLen_ap, fAbs_ap, fInt_ap, fMin2_ap, fMax2_ap, fList_ap, fTuple_ap, fStr_ap, mMt_ap, mMtZ_ap, fAppend_ap, fInsert_ap, fExtend_ap, fPopAt_ap, mChain_ap, oNone_ap, oSome_ap, mSl_ap, gIx_ap, fInX_ap, fNotInX_ap, mIsi_ap, fEqX_ap, fNeX_ap, fAll_ap, fAny_ap, fSum_ap, fSorted_ap, fBest_ap, fIdx_ap, fRepr_ap, mPermA_ap, fBack_ap, gSplice_ap, mSortSet_ap, fMulY_ap, mTupRan_ap, mFz_ap, mGh_ap, fIsX_ap, mGhO_ap, ia_none_int, ia_none_bool, ia_none_list, ia_none_tuple, ia_none_str, ia_none_seq, ia_bool_int, ia_bool_bool, ia_bool_list, ia_bool_tuple, ia_bool_str, ia_bool_seq, ia_int_int, ia_int_bool, ia_int_list, ia_int_tuple, ia_int_str, ia_int_seq, ia_str_int, ia_str_bool, ia_str_list, ia_str_tuple, ia_str_str, ia_str_seq, ia_list_int, ia_list_bool, ia_list_list, ia_list_tuple, ia_list_str, ia_list_seq, ia_tuple_int, ia_tuple_bool, ia_tuple_list, ia_tuple_tuple, ia_tuple_str, ia_tuple_seq, mLst_ap, mTup_ap, mYes_ap, sizeLine_v, shaped_int, eqv_int, shaped_bool, eqv_bool, shaped_none, shaped_nilT, shaped_nilL, frz, frzAll, peek, res1, resAll, stoAll, argOf, argsOf, bors, wback, outAt, outsFrom, ownsStay, retv, wipeF, unwipe, sto, isNone, tyD, cY, cMul, cMod, cDiv, cPow, Cell.dat, b2n, frzS, frzL, fzV, fMulL, d1, hcut]; (try first | rfl | exact ⟨rfl, rfl⟩ | exact ⟨rfl, rfl, rfl⟩ | exact ⟨rfl, rfl, rfl, rfl⟩ | exact ⟨rfl, rfl, rfl, rfl, rfl⟩)) (wp_is (by simp [mVar_ap, mLit_ap, m2_ap, mB_ap, mAndT_ap, mOrT_ap, mNotT_ap, mAndV_ap, mOrV_ap, mNotV_ap, mIfE_ap, mNil_ap, mCons_ap, mDisp_ap, gSet_ap, gsNil_ap, gsCons_ap, gTupD_ap, mSet_ap, mAsg_ap, mPar_ap, mExpr_ap, mRet_ap, mRetN_ap, mNext_ap, mBreak_ap, mCont_ap, mSeq_ap, mIf_ap, iSeq_ap, iRan_ap, iRan2_ap, iEnm_ap, iZp_ap, mFor_ap, mWhile_ap, mCall_ap, mkD_ap, mLc_ap, fI_ap, fAdd_ap, fSub_ap, fMul_ap, fMod_ap, fDiv_ap, fPow_ap, fLt_ap, fLe_ap, fGt_ap, fGe_ap, fIsN_ap, fNotN_ap, fIsB_ap, fIx_ap, fAddX_ap, fSubX_ap, fMulX_ap, m1_ap, fNeg_ap, mB1_ap, fLen_ap, fAbs_ap, fInt_ap, fMin2_ap, fMax2_ap, fList_ap, fTuple_ap, fStr_ap, mMt_ap, mMtZ_ap, fAppend_ap, fInsert_ap, fExtend_ap, fPopAt_ap, mChain_ap, oNone_ap, oSome_ap, mSl_ap, gIx_ap, fInX_ap, fNotInX_ap, mIsi_ap, fEqX_ap, fNeX_ap, fAll_ap, fAny_ap, fSum_ap, fSorted_ap, fBest_ap, fIdx_ap, fRepr_ap, mPermA_ap, fBack_ap, gSplice_ap, mSortSet_ap, fMulY_ap, mTupRan_ap, mFz_ap, mGh_ap, fIsX_ap, mGhO_ap, ia_none_int, ia_none_bool, ia_none_list, ia_none_tuple, ia_none_str, ia_none_seq, ia_bool_int, ia_bool_bool, ia_bool_list, ia_bool_tuple, ia_bool_str, ia_bool_seq, ia_int_int, ia_int_bool, ia_int_list, ia_int_tuple, ia_int_str, ia_int_seq, ia_str_int, ia_str_bool, ia_str_list, ia_str_tuple, ia_str_str, ia_str_seq, ia_list_int, ia_list_bool, ia_list_list, ia_list_tuple, ia_list_str, ia_list_seq, ia_tuple_int, ia_tuple_bool, ia_tuple_list, ia_tuple_tuple, ia_tuple_str, ia_tuple_seq, mLst_ap, mTup_ap, mYes_ap, sizeLine_v, shaped_int, eqv_int, shaped_bool, eqv_bool, shaped_none, shaped_nilT, shaped_nilL, frz, frzAll, peek, res1, resAll, stoAll, argOf, argsOf, bors, wback, outAt, outsFrom, ownsStay, retv, wipeF, unwipe, sto, isNone, tyD, cY, cMul, cMod, cDiv, cPow, Cell.dat, b2n, frzS, frzL, fzV, fMulL, e1]; (try first | rfl | exact ⟨rfl, rfl⟩ | exact ⟨rfl, rfl, rfl⟩ | exact ⟨rfl, rfl, rfl, rfl⟩ | exact ⟨rfl, rfl, rfl, rfl, rfl⟩)) ⟨_, _, _, _, rfl, rfl, by simp [mVar_ap, mLit_ap, m2_ap, mB_ap, mAndT_ap, mOrT_ap, mNotT_ap, mAndV_ap, mOrV_ap, mNotV_ap, mIfE_ap, mNil_ap, mCons_ap, mDisp_ap, gSet_ap, gsNil_ap, gsCons_ap, gTupD_ap, mSet_ap, mAsg_ap, mPar_ap, mExpr_ap, mRet_ap, mRetN_ap, mNext_ap, mBreak_ap, mCont_ap, mSeq_ap, mIf_ap, iSeq_ap, iRan_ap, iRan2_ap, iEnm_ap, iZp_ap, mFor_ap, mWhile_ap, mCall_ap, mkD_ap, mLc_ap, fI_ap, fAdd_ap, fSub_ap, fMul_ap, fMod_ap, fDiv_ap, fPow_ap, fLt_ap, fLe_ap, fGt_ap, fGe_ap, fIsN_ap, fNotN_ap, fIsB_ap, fIx_ap, fAddX_ap, fSubX_ap, fMulX_ap, m1_ap, fNeg_ap, mB1_ap, fLen_ap, fAbs_ap, fInt_ap, fMin2_ap, fMax2_ap, fList_ap, fTuple_ap, fStr_ap, mMt_ap, mMtZ_ap, fAppend_ap, fInsert_ap, fExtend_ap, fPopAt_ap, mChain_ap, oNone_ap, oSome_ap, mSl_ap, gIx_ap, fInX_ap, fNotInX_ap, mIsi_ap, fEqX_ap, fNeX_ap, fAll_ap, fAny_ap, fSum_ap, fSorted_ap, fBest_ap, fIdx_ap, fRepr_ap, mPermA_ap, fBack_ap, gSplice_ap, mSortSet_ap, fMulY_ap, mTupRan_ap, mFz_ap, mGh_ap, fIsX_ap, mGhO_ap, ia_none_int, ia_none_bool, ia_none_list, ia_none_tuple, ia_none_str, ia_none_seq, ia_bool_int, ia_bool_bool, ia_bool_list, ia_bool_tuple, ia_bool_str, ia_bool_seq, ia_int_int, ia_int_bool, ia_int_list, ia_int_tuple, ia_int_str, ia_int_seq, ia_str_int, ia_str_bool, ia_str_list, ia_str_tuple, ia_str_str, ia_str_seq, ia_list_int, ia_list_bool, ia_list_list, ia_list_tuple, ia_list_str, ia_list_seq, ia_tuple_int, ia_tuple_bool, ia_tuple_list, ia_tuple_tuple, ia_tuple_str, ia_tuple_seq, mLst_ap, mTup_ap, mYes_ap, sizeLine_v, shaped_int, eqv_int, shaped_bool, eqv_bool, shaped_none, shaped_nilT, shaped_nilL, frz, frzAll, peek, res1, resAll, stoAll, argOf, argsOf, bors, wback, outAt, outsFrom, ownsStay, retv, wipeF, unwipe, sto, isNone, tyD, cY, cMul, cMod, cDiv, cPow, Cell.dat, b2n, frzS, frzL, fzV, fMulL]; (try first | rfl | exact ⟨rfl, rfl⟩ | exact ⟨rfl, rfl, rfl⟩ | exact ⟨rfl, rfl, rfl, rfl⟩ | exact ⟨rfl, rfl, rfl, rfl, rfl⟩), ⟨gs, ps'⟩, st, s5, rfl, rfl, hs5.mono (by omega), ⟨?_, by dsimp only; omega, c4, c5, ?_, by dsimp only; omega, ?_⟩, ⟨by dsimp only; omega, hsm, hsn, fun j x p hx hp => (e4 j p hp).2.2 x hx⟩⟩))))
  · intro h; dsimp only at h; subst h; simp at c3; omega
  · intro h; dsimp only at h; subst h; simp at e2; omega
  · intro p m
    obtain ⟨j, hj⟩ := List.getElem?_of_mem m
    obtain ⟨h1, h2, h3⟩ := e4 j p hj
    have hjl := (List.getElem?_eq_some_iff.1 hj).1
    dsimp only at hjl
    obtain ⟨h4, h5⟩ := h3 (st[j]'(by omega)) (by simp)
    omega
end Rf

/-! Sp4: things that are bent. -/
namespace Rf
open PySem PySem.Spec PyProof.Rows L2
def K0a : List PyData := [.none, .bool true, .bool false, .int 0, .int 1, .int (-1), .str "", .str "swap", .str "take", .tuple [], .list [], .tuple [.int 0], .list [.int 1], .tuple [.tuple []], .tuple [.int 0, .int 1]]
def K0b : List PyData := [.tuple [.int 1, .int 1], .tuple [.str "swap", .int 0, .int 1]]
theorem okStr (s : String) (h : s.length ≤ 10) (l b k : Nat) : Ok l b k (.str s) ∧ sz (.str (Str.ofString s)) ≤ 110 := by
  refine ⟨?_, ?_⟩
  · simp only [Ok]
    exact ⟨strOk_text s, by rw [PySem.ofString_length]; omega⟩
  · simp only [sz]; rw [PySem.ofString_length]; omega
theorem K0_ok {l b h : Nat} (hl : 3 ≤ l) (hb : 2 ≤ b) : ∀ x ∈ K0a ++ K0b, Ok l b (h + 2) x ∧ sz x ≤ 500 := by
  intro x m
  have e1 := okStr "" (by decide) l b
  have e2 := okStr "swap" (by decide) l b
  have e3 := okStr "take" (by decide) l b
  have i0 : (0 : Int).natAbs = 0 := rfl
  simp only [K0a, K0b, List.cons_append, List.nil_append, List.mem_cons, List.not_mem_nil, or_false] at m
  rcases m with rfl | rfl | rfl | rfl | rfl | rfl | rfl | rfl | rfl | rfl | rfl | rfl | rfl | rfl | rfl | rfl | rfl
  case inr.inr.inr.inr.inr.inr.inl => exact ⟨(e1 _).1, Nat.le_trans (e1 0).2 (by decide)⟩
  case inr.inr.inr.inr.inr.inr.inr.inl => exact ⟨(e2 _).1, Nat.le_trans (e2 0).2 (by decide)⟩
  case inr.inr.inr.inr.inr.inr.inr.inr.inl => exact ⟨(e3 _).1, Nat.le_trans (e3 0).2 (by decide)⟩
  case inr.inr.inr.inr.inr.inr.inr.inr.inr.inr.inr.inr.inr.inr.inr.inr =>
    refine ⟨⟨by simpa using hl, ?_⟩, ?_⟩
    · intro x m
      simp at m
      rcases m with rfl | rfl | rfl
      · exact (e2 _).1
      · simp [Ok]; omega
      · simp [Ok]; omega
    · have := (e2 0).2
      simp only [sz, szA] at this ⊢; omega
  all_goals simp [Ok, sz, szA]
  all_goals omega
theorem repD_mem {k : Int} {x : PyData} {ds : List PyData} (h : x ∈ repD k ds) : x ∈ ds := by
  simp only [repD, List.mem_flatten, List.mem_replicate] at h
  obtain ⟨l, ⟨_, rfl⟩, h⟩ := h; exact h
theorem repD_len (ds : List PyData) : (repD 2 ds).length = ds.length * 2 := by simp [repD]; omega
theorem cut_mem {x : PyData} {ds : List PyData} {lo hi : Option Int} (h : x ∈ Rf.cutD ds lo hi) : x ∈ ds := List.mem_of_mem_drop (List.mem_of_mem_take h)
theorem cut_len (ds : List PyData) (lo hi : Option Int) : (Rf.cutD ds lo hi).length ≤ ds.length := by simp [Rf.cutD]; omega
theorem cut_sz (ds : List PyData) (lo hi : Option Int) : szA (Rf.cutD ds lo hi) ≤ szA ds := Nat.le_trans (szA_take _ _) (szA_drop _ _)

def SpOdd (D : Dm) : Prop := ∀ (C : Int) (s : S0) (d : PyData) (l b h : Nat), Bx C s → C + 10 ≤ BC → Ok l b h d → 3 ≤ l → l ≤ 1000 → 2 ≤ b → b ≤ 10 ^ 50 → Ev D [s, .dat d] fun r outs => ∃ x s', r = .dat x ∧ outs = [s', .dat d] ∧ Bx (C + 1) s' ∧ Ok l (b + 1) (h + 2) x ∧ sz x ≤ sz d + 1000
theorem sp_odd {P : Dm} (hP : SpPick P) : SpOdd (B_odd P) := by
  intro C s d l b h hs hC o hl hl2 hb hb2
  have hC' : C + 10 ≤ 100000000 := hC
  obtain ⟨q, rfl⟩ := hs.own
  have h17 : (K0a ++ K0b).length = 17 := rfl
  -- how it ends, from the list that slot 2 holds
  have fin0 : ∀ (L : List PyData), 0 < L.length → L.length ≤ 1000 → (∀ x ∈ L, Ok l (b + 1) (h + 2) x ∧ sz x ≤ sz d + 1000) → Wp (mRet (mCall P (mFz (mCons (mVar 0) (mCons (mVar 2) mNil))))) [some (.own (.lst q)), some (.dat d), some (.dat (.list L))] (fun fl fm1 => ∃ v r fm2 outs, fl = .rt v ∧ retv [.own (.lst q), .dat d] v fm1 = some (r, fm2) ∧ outsFrom [0, 1] fm2 0 [.own (.lst q), .dat d] = some outs ∧ ∃ x s', r = .dat x ∧ outs = [s', .dat d] ∧ Bx (C + 1) s' ∧ Ok l (b + 1) (h + 2) x ∧ sz x ≤ sz d + 1000) := by
    intro L h0 h1 hx
    obtain ⟨x, s', m, e1, e2⟩ := hP C (.own (.lst q)) (.dat (.list L)) L (.inr (.inl rfl)) hs (by show C ≤ 100000000; omega) h0 (by omega)
    obtain ⟨q', rfl⟩ := e1.own
    exact wp_is (by simp [mVar_ap, mLit_ap, m2_ap, mB_ap, mAndT_ap, mOrT_ap, mNotT_ap, mAndV_ap, mOrV_ap, mNotV_ap, mIfE_ap, mNil_ap, mCons_ap, mDisp_ap, gSet_ap, gsNil_ap, gsCons_ap, gTupD_ap, mSet_ap, mAsg_ap, mPar_ap, mExpr_ap, mRet_ap, mRetN_ap, mNext_ap, mBreak_ap, mCont_ap, mSeq_ap, mIf_ap, iSeq_ap, iRan_ap, iRan2_ap, iEnm_ap, iZp_ap, mFor_ap, mWhile_ap, mCall_ap, mkD_ap, mLc_ap, fI_ap, fAdd_ap, fSub_ap, fMul_ap, fMod_ap, fDiv_ap, fPow_ap, fLt_ap, fLe_ap, fGt_ap, fGe_ap, fIsN_ap, fNotN_ap, fIsB_ap, fIx_ap, fAddX_ap, fSubX_ap, fMulX_ap, m1_ap, fNeg_ap, mB1_ap, fLen_ap, fAbs_ap, fInt_ap, fMin2_ap, fMax2_ap, fList_ap, fTuple_ap, fStr_ap, mMt_ap, mMtZ_ap, fAppend_ap, fInsert_ap, fExtend_ap, fPopAt_ap, mChain_ap, oNone_ap, oSome_ap, mSl_ap, gIx_ap, fInX_ap, fNotInX_ap, mIsi_ap, fEqX_ap, fNeX_ap, fAll_ap, fAny_ap, fSum_ap, fSorted_ap, fBest_ap, fIdx_ap, fRepr_ap, mPermA_ap, fBack_ap, gSplice_ap, mSortSet_ap, fMulY_ap, mTupRan_ap, mFz_ap, mGh_ap, fIsX_ap, mGhO_ap, ia_none_int, ia_none_bool, ia_none_list, ia_none_tuple, ia_none_str, ia_none_seq, ia_bool_int, ia_bool_bool, ia_bool_list, ia_bool_tuple, ia_bool_str, ia_bool_seq, ia_int_int, ia_int_bool, ia_int_list, ia_int_tuple, ia_int_str, ia_int_seq, ia_str_int, ia_str_bool, ia_str_list, ia_str_tuple, ia_str_str, ia_str_seq, ia_list_int, ia_list_bool, ia_list_list, ia_list_tuple, ia_list_str, ia_list_seq, ia_tuple_int, ia_tuple_bool, ia_tuple_list, ia_tuple_tuple, ia_tuple_str, ia_tuple_seq, mLst_ap, mTup_ap, mYes_ap, sizeLine_v, shaped_int, eqv_int, shaped_bool, eqv_bool, shaped_none, shaped_nilT, shaped_nilL, frz, frzAll, peek, res1, resAll, stoAll, argOf, argsOf, bors, wback, outAt, outsFrom, ownsStay, retv, wipeF, unwipe, sto, isNone, tyD, cY, cMul, cMod, cDiv, cPow, Cell.dat, b2n, frzS, frzL, fzV, fMulL, e2]; (try first | rfl | exact ⟨rfl, rfl⟩ | exact ⟨rfl, rfl, rfl⟩ | exact ⟨rfl, rfl, rfl, rfl⟩ | exact ⟨rfl, rfl, rfl, rfl, rfl⟩)) ⟨_, _, _, _, rfl, rfl, by simp [mVar_ap, mLit_ap, m2_ap, mB_ap, mAndT_ap, mOrT_ap, mNotT_ap, mAndV_ap, mOrV_ap, mNotV_ap, mIfE_ap, mNil_ap, mCons_ap, mDisp_ap, gSet_ap, gsNil_ap, gsCons_ap, gTupD_ap, mSet_ap, mAsg_ap, mPar_ap, mExpr_ap, mRet_ap, mRetN_ap, mNext_ap, mBreak_ap, mCont_ap, mSeq_ap, mIf_ap, iSeq_ap, iRan_ap, iRan2_ap, iEnm_ap, iZp_ap, mFor_ap, mWhile_ap, mCall_ap, mkD_ap, mLc_ap, fI_ap, fAdd_ap, fSub_ap, fMul_ap, fMod_ap, fDiv_ap, fPow_ap, fLt_ap, fLe_ap, fGt_ap, fGe_ap, fIsN_ap, fNotN_ap, fIsB_ap, fIx_ap, fAddX_ap, fSubX_ap, fMulX_ap, m1_ap, fNeg_ap, mB1_ap, fLen_ap, fAbs_ap, fInt_ap, fMin2_ap, fMax2_ap, fList_ap, fTuple_ap, fStr_ap, mMt_ap, mMtZ_ap, fAppend_ap, fInsert_ap, fExtend_ap, fPopAt_ap, mChain_ap, oNone_ap, oSome_ap, mSl_ap, gIx_ap, fInX_ap, fNotInX_ap, mIsi_ap, fEqX_ap, fNeX_ap, fAll_ap, fAny_ap, fSum_ap, fSorted_ap, fBest_ap, fIdx_ap, fRepr_ap, mPermA_ap, fBack_ap, gSplice_ap, mSortSet_ap, fMulY_ap, mTupRan_ap, mFz_ap, mGh_ap, fIsX_ap, mGhO_ap, ia_none_int, ia_none_bool, ia_none_list, ia_none_tuple, ia_none_str, ia_none_seq, ia_bool_int, ia_bool_bool, ia_bool_list, ia_bool_tuple, ia_bool_str, ia_bool_seq, ia_int_int, ia_int_bool, ia_int_list, ia_int_tuple, ia_int_str, ia_int_seq, ia_str_int, ia_str_bool, ia_str_list, ia_str_tuple, ia_str_str, ia_str_seq, ia_list_int, ia_list_bool, ia_list_list, ia_list_tuple, ia_list_str, ia_list_seq, ia_tuple_int, ia_tuple_bool, ia_tuple_list, ia_tuple_tuple, ia_tuple_str, ia_tuple_seq, mLst_ap, mTup_ap, mYes_ap, sizeLine_v, shaped_int, eqv_int, shaped_bool, eqv_bool, shaped_none, shaped_nilT, shaped_nilL, frz, frzAll, peek, res1, resAll, stoAll, argOf, argsOf, bors, wback, outAt, outsFrom, ownsStay, retv, wipeF, unwipe, sto, isNone, tyD, cY, cMul, cMod, cDiv, cPow, Cell.dat, b2n, frzS, frzL, fzV, fMulL]; (try first | rfl | exact ⟨rfl, rfl⟩ | exact ⟨rfl, rfl, rfl⟩ | exact ⟨rfl, rfl, rfl, rfl⟩ | exact ⟨rfl, rfl, rfl, rfl, rfl⟩), x, _, rfl, rfl, e1, hx x m⟩
  have fin : ∀ (es : List PyData), es.length ≤ 900 → (∀ x ∈ es, Ok l (b + 1) (h + 2) x ∧ sz x ≤ sz d + 1000) → Wp (mRet (mCall P (mFz (mCons (mVar 0) (mCons (mVar 2) mNil))))) [some (.own (.lst q)), some (.dat d), some (.dat (.list (K0a ++ K0b ++ es)))] (fun fl fm1 => ∃ v r fm2 outs, fl = .rt v ∧ retv [.own (.lst q), .dat d] v fm1 = some (r, fm2) ∧ outsFrom [0, 1] fm2 0 [.own (.lst q), .dat d] = some outs ∧ ∃ x s', r = .dat x ∧ outs = [s', .dat d] ∧ Bx (C + 1) s' ∧ Ok l (b + 1) (h + 2) x ∧ sz x ≤ sz d + 1000) := fun es he hx =>
    fin0 _ (by rw [List.length_append, h17]; omega) (by rw [List.length_append, h17]; omega) fun x m => by
      rcases List.mem_append.1 m with m | m
      · have := K0_ok (l := l) (b := b + 1) (h := h) hl (by omega) x m
        exact ⟨this.1, by omega⟩
      · exact hx x m
  have num : ∀ i : Int, i.natAbs < b → (d = .int i) → ∀ x ∈ [PyData.int (i + 1), .int (i - 1), .int (0 - i), .str (toString i), .bool (decide (i = 1))], Ok l (b + 1) (h + 2) x ∧ sz x ≤ sz d + 1000 := by
    intro i hi e x m
    simp only [List.mem_cons, List.not_mem_nil, or_false] at m
    rcases m with rfl | rfl | rfl | rfl | rfl
    · simp only [Ok, sz]; omega
    · simp only [Ok, sz]; omega
    · simp only [Ok, sz]; omega
    · have := len_text hi hb2
      simp only [Ok, sz]
      exact ⟨⟨strOk_text _, by omega⟩, by omega⟩
    · exact ⟨trivial, by simp only [sz]; omega⟩
  have seq : ∀ ds : List PyData, ds.length ≤ l → (∀ x ∈ ds, Ok l b (h - 1) x) → 1 ≤ h → sz d = szA ds + 10 → ∀ y, (y = PyData.list ds ∨ y = .tuple ds ∨ y = .list ds.reverse ∨ y = .tuple ds.reverse ∨ (∃ lo hi, y = .list (Rf.cutD ds lo hi)) ∨ (∃ lo hi, y = .tuple (Rf.cutD ds lo hi))) → Ok l (b + 1) (h + 2) y ∧ sz y ≤ sz d + 1000 := by
    intro ds h1 h2 h3 h4 y hy
    have okk : ∀ es : List PyData, es.length ≤ ds.length → (∀ x ∈ es, x ∈ ds) → (Ok l (b + 1) (h + 2) (.list es) ∧ Ok l (b + 1) (h + 2) (.tuple es)) := fun es q1 q2 =>
      ⟨⟨by omega, fun x m => (h2 x (q2 x m)).mono (Nat.le_refl _) (by omega) (by omega)⟩, ⟨by omega, fun x m => (h2 x (q2 x m)).mono (Nat.le_refl _) (by omega) (by omega)⟩⟩
    rcases hy with rfl | rfl | rfl | rfl | ⟨lo, hi, rfl⟩ | ⟨lo, hi, rfl⟩
    · exact ⟨(okk ds (Nat.le_refl _) fun _ m => m).1, by simp only [sz]; omega⟩
    · exact ⟨(okk ds (Nat.le_refl _) fun _ m => m).2, by simp only [sz]; omega⟩
    · exact ⟨(okk ds.reverse (by simp) fun _ m => by simpa using m).1, by simp only [sz, szA_rev]; omega⟩
    · exact ⟨(okk ds.reverse (by simp) fun _ m => by simpa using m).2, by simp only [sz, szA_rev]; omega⟩
    · have := cut_sz ds lo hi
      exact ⟨(okk _ (cut_len ds lo hi) fun _ m => cut_mem m).1, by simp only [sz]; omega⟩
    · have := cut_sz ds lo hi
      exact ⟨(okk _ (cut_len ds lo hi) fun _ m => cut_mem m).2, by simp only [sz]; omega⟩
  refine mkD_wp rfl (wp_gh (fm1 := [some (.own (.lst q)), some (.dat d), some (.own (.lst K0a))]) (by simp [mVar_ap, mLit_ap, m2_ap, mB_ap, mAndT_ap, mOrT_ap, mNotT_ap, mAndV_ap, mOrV_ap, mNotV_ap, mIfE_ap, mNil_ap, mCons_ap, mDisp_ap, gSet_ap, gsNil_ap, gsCons_ap, gTupD_ap, mSet_ap, mAsg_ap, mPar_ap, mExpr_ap, mRet_ap, mRetN_ap, mNext_ap, mBreak_ap, mCont_ap, mSeq_ap, mIf_ap, iSeq_ap, iRan_ap, iRan2_ap, iEnm_ap, iZp_ap, mFor_ap, mWhile_ap, mCall_ap, mkD_ap, mLc_ap, fI_ap, fAdd_ap, fSub_ap, fMul_ap, fMod_ap, fDiv_ap, fPow_ap, fLt_ap, fLe_ap, fGt_ap, fGe_ap, fIsN_ap, fNotN_ap, fIsB_ap, fIx_ap, fAddX_ap, fSubX_ap, fMulX_ap, m1_ap, fNeg_ap, mB1_ap, fLen_ap, fAbs_ap, fInt_ap, fMin2_ap, fMax2_ap, fList_ap, fTuple_ap, fStr_ap, mMt_ap, mMtZ_ap, fAppend_ap, fInsert_ap, fExtend_ap, fPopAt_ap, mChain_ap, oNone_ap, oSome_ap, mSl_ap, gIx_ap, fInX_ap, fNotInX_ap, mIsi_ap, fEqX_ap, fNeX_ap, fAll_ap, fAny_ap, fSum_ap, fSorted_ap, fBest_ap, fIdx_ap, fRepr_ap, mPermA_ap, fBack_ap, gSplice_ap, mSortSet_ap, fMulY_ap, mTupRan_ap, mFz_ap, mGh_ap, fIsX_ap, mGhO_ap, ia_none_int, ia_none_bool, ia_none_list, ia_none_tuple, ia_none_str, ia_none_seq, ia_bool_int, ia_bool_bool, ia_bool_list, ia_bool_tuple, ia_bool_str, ia_bool_seq, ia_int_int, ia_int_bool, ia_int_list, ia_int_tuple, ia_int_str, ia_int_seq, ia_str_int, ia_str_bool, ia_str_list, ia_str_tuple, ia_str_str, ia_str_seq, ia_list_int, ia_list_bool, ia_list_list, ia_list_tuple, ia_list_str, ia_list_seq, ia_tuple_int, ia_tuple_bool, ia_tuple_list, ia_tuple_tuple, ia_tuple_str, ia_tuple_seq, mLst_ap, mTup_ap, mYes_ap, sizeLine_v, shaped_int, eqv_int, shaped_bool, eqv_bool, shaped_none, shaped_nilT, shaped_nilL, frz, frzAll, peek, res1, resAll, stoAll, argOf, argsOf, bors, wback, outAt, outsFrom, ownsStay, retv, wipeF, unwipe, sto, isNone, tyD, cY, cMul, cMod, cDiv, cPow, Cell.dat, b2n, frzS, frzL, fzV, atI, ixN, fMulL, K0a]) (wp_gh (fm1 := [some (.own (.lst q)), some (.dat d), some (.own (.lst (K0a ++ K0b)))]) (by have h15 : K0a.length = 15 := rfl; simp [mVar_ap, mLit_ap, m2_ap, mB_ap, mAndT_ap, mOrT_ap, mNotT_ap, mAndV_ap, mOrV_ap, mNotV_ap, mIfE_ap, mNil_ap, mCons_ap, mDisp_ap, gSet_ap, gsNil_ap, gsCons_ap, gTupD_ap, mSet_ap, mAsg_ap, mPar_ap, mExpr_ap, mRet_ap, mRetN_ap, mNext_ap, mBreak_ap, mCont_ap, mSeq_ap, mIf_ap, iSeq_ap, iRan_ap, iRan2_ap, iEnm_ap, iZp_ap, mFor_ap, mWhile_ap, mCall_ap, mkD_ap, mLc_ap, fI_ap, fAdd_ap, fSub_ap, fMul_ap, fMod_ap, fDiv_ap, fPow_ap, fLt_ap, fLe_ap, fGt_ap, fGe_ap, fIsN_ap, fNotN_ap, fIsB_ap, fIx_ap, fAddX_ap, fSubX_ap, fMulX_ap, m1_ap, fNeg_ap, mB1_ap, fLen_ap, fAbs_ap, fInt_ap, fMin2_ap, fMax2_ap, fList_ap, fTuple_ap, fStr_ap, mMt_ap, mMtZ_ap, fAppend_ap, fInsert_ap, fExtend_ap, fPopAt_ap, mChain_ap, oNone_ap, oSome_ap, mSl_ap, gIx_ap, fInX_ap, fNotInX_ap, mIsi_ap, fEqX_ap, fNeX_ap, fAll_ap, fAny_ap, fSum_ap, fSorted_ap, fBest_ap, fIdx_ap, fRepr_ap, mPermA_ap, fBack_ap, gSplice_ap, mSortSet_ap, fMulY_ap, mTupRan_ap, mFz_ap, mGh_ap, fIsX_ap, mGhO_ap, ia_none_int, ia_none_bool, ia_none_list, ia_none_tuple, ia_none_str, ia_none_seq, ia_bool_int, ia_bool_bool, ia_bool_list, ia_bool_tuple, ia_bool_str, ia_bool_seq, ia_int_int, ia_int_bool, ia_int_list, ia_int_tuple, ia_int_str, ia_int_seq, ia_str_int, ia_str_bool, ia_str_list, ia_str_tuple, ia_str_str, ia_str_seq, ia_list_int, ia_list_bool, ia_list_list, ia_list_tuple, ia_list_str, ia_list_seq, ia_tuple_int, ia_tuple_bool, ia_tuple_list, ia_tuple_tuple, ia_tuple_str, ia_tuple_seq, mLst_ap, mTup_ap, mYes_ap, sizeLine_v, shaped_int, eqv_int, shaped_bool, eqv_bool, shaped_none, shaped_nilT, shaped_nilL, frz, frzAll, peek, res1, resAll, stoAll, argOf, argsOf, bors, wback, outAt, outsFrom, ownsStay, retv, wipeF, unwipe, sto, isNone, tyD, cY, cMul, cMod, cDiv, cPow, Cell.dat, b2n, frzS, frzL, fzV, atI, ixN, fMulL, K0b, h15]) ?_))
  match h, d, o with
  | h, .none, o => exact wp_nx (by simp [mVar_ap, mLit_ap, m2_ap, mB_ap, mAndT_ap, mOrT_ap, mNotT_ap, mAndV_ap, mOrV_ap, mNotV_ap, mIfE_ap, mNil_ap, mCons_ap, mDisp_ap, gSet_ap, gsNil_ap, gsCons_ap, gTupD_ap, mSet_ap, mAsg_ap, mPar_ap, mExpr_ap, mRet_ap, mRetN_ap, mNext_ap, mBreak_ap, mCont_ap, mSeq_ap, mIf_ap, iSeq_ap, iRan_ap, iRan2_ap, iEnm_ap, iZp_ap, mFor_ap, mWhile_ap, mCall_ap, mkD_ap, mLc_ap, fI_ap, fAdd_ap, fSub_ap, fMul_ap, fMod_ap, fDiv_ap, fPow_ap, fLt_ap, fLe_ap, fGt_ap, fGe_ap, fIsN_ap, fNotN_ap, fIsB_ap, fIx_ap, fAddX_ap, fSubX_ap, fMulX_ap, m1_ap, fNeg_ap, mB1_ap, fLen_ap, fAbs_ap, fInt_ap, fMin2_ap, fMax2_ap, fList_ap, fTuple_ap, fStr_ap, mMt_ap, mMtZ_ap, fAppend_ap, fInsert_ap, fExtend_ap, fPopAt_ap, mChain_ap, oNone_ap, oSome_ap, mSl_ap, gIx_ap, fInX_ap, fNotInX_ap, mIsi_ap, fEqX_ap, fNeX_ap, fAll_ap, fAny_ap, fSum_ap, fSorted_ap, fBest_ap, fIdx_ap, fRepr_ap, mPermA_ap, fBack_ap, gSplice_ap, mSortSet_ap, fMulY_ap, mTupRan_ap, mFz_ap, mGh_ap, fIsX_ap, mGhO_ap, ia_none_int, ia_none_bool, ia_none_list, ia_none_tuple, ia_none_str, ia_none_seq, ia_bool_int, ia_bool_bool, ia_bool_list, ia_bool_tuple, ia_bool_str, ia_bool_seq, ia_int_int, ia_int_bool, ia_int_list, ia_int_tuple, ia_int_str, ia_int_seq, ia_str_int, ia_str_bool, ia_str_list, ia_str_tuple, ia_str_str, ia_str_seq, ia_list_int, ia_list_bool, ia_list_list, ia_list_tuple, ia_list_str, ia_list_seq, ia_tuple_int, ia_tuple_bool, ia_tuple_list, ia_tuple_tuple, ia_tuple_str, ia_tuple_seq, mLst_ap, mTup_ap, mYes_ap, sizeLine_v, shaped_int, eqv_int, shaped_bool, eqv_bool, shaped_none, shaped_nilT, shaped_nilL, frz, frzAll, peek, res1, resAll, stoAll, argOf, argsOf, bors, wback, outAt, outsFrom, ownsStay, retv, wipeF, unwipe, sto, isNone, tyD, cY, cMul, cMod, cDiv, cPow, Cell.dat, b2n, frzS, frzL, fzV, atI, ixN, fMulL]; (try first | rfl | exact ⟨rfl, rfl⟩ | exact ⟨rfl, rfl, rfl⟩ | exact ⟨rfl, rfl, rfl, rfl⟩ | exact ⟨rfl, rfl, rfl, rfl, rfl⟩)) (wp_nx (by simp [mVar_ap, mLit_ap, m2_ap, mB_ap, mAndT_ap, mOrT_ap, mNotT_ap, mAndV_ap, mOrV_ap, mNotV_ap, mIfE_ap, mNil_ap, mCons_ap, mDisp_ap, gSet_ap, gsNil_ap, gsCons_ap, gTupD_ap, mSet_ap, mAsg_ap, mPar_ap, mExpr_ap, mRet_ap, mRetN_ap, mNext_ap, mBreak_ap, mCont_ap, mSeq_ap, mIf_ap, iSeq_ap, iRan_ap, iRan2_ap, iEnm_ap, iZp_ap, mFor_ap, mWhile_ap, mCall_ap, mkD_ap, mLc_ap, fI_ap, fAdd_ap, fSub_ap, fMul_ap, fMod_ap, fDiv_ap, fPow_ap, fLt_ap, fLe_ap, fGt_ap, fGe_ap, fIsN_ap, fNotN_ap, fIsB_ap, fIx_ap, fAddX_ap, fSubX_ap, fMulX_ap, m1_ap, fNeg_ap, mB1_ap, fLen_ap, fAbs_ap, fInt_ap, fMin2_ap, fMax2_ap, fList_ap, fTuple_ap, fStr_ap, mMt_ap, mMtZ_ap, fAppend_ap, fInsert_ap, fExtend_ap, fPopAt_ap, mChain_ap, oNone_ap, oSome_ap, mSl_ap, gIx_ap, fInX_ap, fNotInX_ap, mIsi_ap, fEqX_ap, fNeX_ap, fAll_ap, fAny_ap, fSum_ap, fSorted_ap, fBest_ap, fIdx_ap, fRepr_ap, mPermA_ap, fBack_ap, gSplice_ap, mSortSet_ap, fMulY_ap, mTupRan_ap, mFz_ap, mGh_ap, fIsX_ap, mGhO_ap, ia_none_int, ia_none_bool, ia_none_list, ia_none_tuple, ia_none_str, ia_none_seq, ia_bool_int, ia_bool_bool, ia_bool_list, ia_bool_tuple, ia_bool_str, ia_bool_seq, ia_int_int, ia_int_bool, ia_int_list, ia_int_tuple, ia_int_str, ia_int_seq, ia_str_int, ia_str_bool, ia_str_list, ia_str_tuple, ia_str_str, ia_str_seq, ia_list_int, ia_list_bool, ia_list_list, ia_list_tuple, ia_list_str, ia_list_seq, ia_tuple_int, ia_tuple_bool, ia_tuple_list, ia_tuple_tuple, ia_tuple_str, ia_tuple_seq, mLst_ap, mTup_ap, mYes_ap, sizeLine_v, shaped_int, eqv_int, shaped_bool, eqv_bool, shaped_none, shaped_nilT, shaped_nilL, frz, frzAll, peek, res1, resAll, stoAll, argOf, argsOf, bors, wback, outAt, outsFrom, ownsStay, retv, wipeF, unwipe, sto, isNone, tyD, cY, cMul, cMod, cDiv, cPow, Cell.dat, b2n, frzS, frzL, fzV, atI, ixN, fMulL]; (try first | rfl | exact ⟨rfl, rfl⟩ | exact ⟨rfl, rfl, rfl⟩ | exact ⟨rfl, rfl, rfl, rfl⟩ | exact ⟨rfl, rfl, rfl, rfl, rfl⟩)) (fin [] (by simp) (by simp)))
  | h, .str _, o => exact wp_nx (by simp [mVar_ap, mLit_ap, m2_ap, mB_ap, mAndT_ap, mOrT_ap, mNotT_ap, mAndV_ap, mOrV_ap, mNotV_ap, mIfE_ap, mNil_ap, mCons_ap, mDisp_ap, gSet_ap, gsNil_ap, gsCons_ap, gTupD_ap, mSet_ap, mAsg_ap, mPar_ap, mExpr_ap, mRet_ap, mRetN_ap, mNext_ap, mBreak_ap, mCont_ap, mSeq_ap, mIf_ap, iSeq_ap, iRan_ap, iRan2_ap, iEnm_ap, iZp_ap, mFor_ap, mWhile_ap, mCall_ap, mkD_ap, mLc_ap, fI_ap, fAdd_ap, fSub_ap, fMul_ap, fMod_ap, fDiv_ap, fPow_ap, fLt_ap, fLe_ap, fGt_ap, fGe_ap, fIsN_ap, fNotN_ap, fIsB_ap, fIx_ap, fAddX_ap, fSubX_ap, fMulX_ap, m1_ap, fNeg_ap, mB1_ap, fLen_ap, fAbs_ap, fInt_ap, fMin2_ap, fMax2_ap, fList_ap, fTuple_ap, fStr_ap, mMt_ap, mMtZ_ap, fAppend_ap, fInsert_ap, fExtend_ap, fPopAt_ap, mChain_ap, oNone_ap, oSome_ap, mSl_ap, gIx_ap, fInX_ap, fNotInX_ap, mIsi_ap, fEqX_ap, fNeX_ap, fAll_ap, fAny_ap, fSum_ap, fSorted_ap, fBest_ap, fIdx_ap, fRepr_ap, mPermA_ap, fBack_ap, gSplice_ap, mSortSet_ap, fMulY_ap, mTupRan_ap, mFz_ap, mGh_ap, fIsX_ap, mGhO_ap, ia_none_int, ia_none_bool, ia_none_list, ia_none_tuple, ia_none_str, ia_none_seq, ia_bool_int, ia_bool_bool, ia_bool_list, ia_bool_tuple, ia_bool_str, ia_bool_seq, ia_int_int, ia_int_bool, ia_int_list, ia_int_tuple, ia_int_str, ia_int_seq, ia_str_int, ia_str_bool, ia_str_list, ia_str_tuple, ia_str_str, ia_str_seq, ia_list_int, ia_list_bool, ia_list_list, ia_list_tuple, ia_list_str, ia_list_seq, ia_tuple_int, ia_tuple_bool, ia_tuple_list, ia_tuple_tuple, ia_tuple_str, ia_tuple_seq, mLst_ap, mTup_ap, mYes_ap, sizeLine_v, shaped_int, eqv_int, shaped_bool, eqv_bool, shaped_none, shaped_nilT, shaped_nilL, frz, frzAll, peek, res1, resAll, stoAll, argOf, argsOf, bors, wback, outAt, outsFrom, ownsStay, retv, wipeF, unwipe, sto, isNone, tyD, cY, cMul, cMod, cDiv, cPow, Cell.dat, b2n, frzS, frzL, fzV, atI, ixN, fMulL]; (try first | rfl | exact ⟨rfl, rfl⟩ | exact ⟨rfl, rfl, rfl⟩ | exact ⟨rfl, rfl, rfl, rfl⟩ | exact ⟨rfl, rfl, rfl, rfl, rfl⟩)) (wp_nx (by simp [mVar_ap, mLit_ap, m2_ap, mB_ap, mAndT_ap, mOrT_ap, mNotT_ap, mAndV_ap, mOrV_ap, mNotV_ap, mIfE_ap, mNil_ap, mCons_ap, mDisp_ap, gSet_ap, gsNil_ap, gsCons_ap, gTupD_ap, mSet_ap, mAsg_ap, mPar_ap, mExpr_ap, mRet_ap, mRetN_ap, mNext_ap, mBreak_ap, mCont_ap, mSeq_ap, mIf_ap, iSeq_ap, iRan_ap, iRan2_ap, iEnm_ap, iZp_ap, mFor_ap, mWhile_ap, mCall_ap, mkD_ap, mLc_ap, fI_ap, fAdd_ap, fSub_ap, fMul_ap, fMod_ap, fDiv_ap, fPow_ap, fLt_ap, fLe_ap, fGt_ap, fGe_ap, fIsN_ap, fNotN_ap, fIsB_ap, fIx_ap, fAddX_ap, fSubX_ap, fMulX_ap, m1_ap, fNeg_ap, mB1_ap, fLen_ap, fAbs_ap, fInt_ap, fMin2_ap, fMax2_ap, fList_ap, fTuple_ap, fStr_ap, mMt_ap, mMtZ_ap, fAppend_ap, fInsert_ap, fExtend_ap, fPopAt_ap, mChain_ap, oNone_ap, oSome_ap, mSl_ap, gIx_ap, fInX_ap, fNotInX_ap, mIsi_ap, fEqX_ap, fNeX_ap, fAll_ap, fAny_ap, fSum_ap, fSorted_ap, fBest_ap, fIdx_ap, fRepr_ap, mPermA_ap, fBack_ap, gSplice_ap, mSortSet_ap, fMulY_ap, mTupRan_ap, mFz_ap, mGh_ap, fIsX_ap, mGhO_ap, ia_none_int, ia_none_bool, ia_none_list, ia_none_tuple, ia_none_str, ia_none_seq, ia_bool_int, ia_bool_bool, ia_bool_list, ia_bool_tuple, ia_bool_str, ia_bool_seq, ia_int_int, ia_int_bool, ia_int_list, ia_int_tuple, ia_int_str, ia_int_seq, ia_str_int, ia_str_bool, ia_str_list, ia_str_tuple, ia_str_str, ia_str_seq, ia_list_int, ia_list_bool, ia_list_list, ia_list_tuple, ia_list_str, ia_list_seq, ia_tuple_int, ia_tuple_bool, ia_tuple_list, ia_tuple_tuple, ia_tuple_str, ia_tuple_seq, mLst_ap, mTup_ap, mYes_ap, sizeLine_v, shaped_int, eqv_int, shaped_bool, eqv_bool, shaped_none, shaped_nilT, shaped_nilL, frz, frzAll, peek, res1, resAll, stoAll, argOf, argsOf, bors, wback, outAt, outsFrom, ownsStay, retv, wipeF, unwipe, sto, isNone, tyD, cY, cMul, cMod, cDiv, cPow, Cell.dat, b2n, frzS, frzL, fzV, atI, ixN, fMulL]; (try first | rfl | exact ⟨rfl, rfl⟩ | exact ⟨rfl, rfl, rfl⟩ | exact ⟨rfl, rfl, rfl, rfl⟩ | exact ⟨rfl, rfl, rfl, rfl, rfl⟩)) (fin [] (by simp) (by simp)))
  | h, .bool t, o =>
    refine wp_nx (fm1 := [some (.own (.lst q)), some (.dat (.bool t)), some (.dat (.list (K0a ++ K0b ++ repD 2 [.int (b2n t + 1), .int (b2n t - 1), .int (0 - b2n t), .str (if t then "True" else "False"), .bool (decide (b2n t = 1))])))]) ?_ (wp_nx (by simp [mVar_ap, mLit_ap, m2_ap, mB_ap, mAndT_ap, mOrT_ap, mNotT_ap, mAndV_ap, mOrV_ap, mNotV_ap, mIfE_ap, mNil_ap, mCons_ap, mDisp_ap, gSet_ap, gsNil_ap, gsCons_ap, gTupD_ap, mSet_ap, mAsg_ap, mPar_ap, mExpr_ap, mRet_ap, mRetN_ap, mNext_ap, mBreak_ap, mCont_ap, mSeq_ap, mIf_ap, iSeq_ap, iRan_ap, iRan2_ap, iEnm_ap, iZp_ap, mFor_ap, mWhile_ap, mCall_ap, mkD_ap, mLc_ap, fI_ap, fAdd_ap, fSub_ap, fMul_ap, fMod_ap, fDiv_ap, fPow_ap, fLt_ap, fLe_ap, fGt_ap, fGe_ap, fIsN_ap, fNotN_ap, fIsB_ap, fIx_ap, fAddX_ap, fSubX_ap, fMulX_ap, m1_ap, fNeg_ap, mB1_ap, fLen_ap, fAbs_ap, fInt_ap, fMin2_ap, fMax2_ap, fList_ap, fTuple_ap, fStr_ap, mMt_ap, mMtZ_ap, fAppend_ap, fInsert_ap, fExtend_ap, fPopAt_ap, mChain_ap, oNone_ap, oSome_ap, mSl_ap, gIx_ap, fInX_ap, fNotInX_ap, mIsi_ap, fEqX_ap, fNeX_ap, fAll_ap, fAny_ap, fSum_ap, fSorted_ap, fBest_ap, fIdx_ap, fRepr_ap, mPermA_ap, fBack_ap, gSplice_ap, mSortSet_ap, fMulY_ap, mTupRan_ap, mFz_ap, mGh_ap, fIsX_ap, mGhO_ap, ia_none_int, ia_none_bool, ia_none_list, ia_none_tuple, ia_none_str, ia_none_seq, ia_bool_int, ia_bool_bool, ia_bool_list, ia_bool_tuple, ia_bool_str, ia_bool_seq, ia_int_int, ia_int_bool, ia_int_list, ia_int_tuple, ia_int_str, ia_int_seq, ia_str_int, ia_str_bool, ia_str_list, ia_str_tuple, ia_str_str, ia_str_seq, ia_list_int, ia_list_bool, ia_list_list, ia_list_tuple, ia_list_str, ia_list_seq, ia_tuple_int, ia_tuple_bool, ia_tuple_list, ia_tuple_tuple, ia_tuple_str, ia_tuple_seq, mLst_ap, mTup_ap, mYes_ap, sizeLine_v, shaped_int, eqv_int, shaped_bool, eqv_bool, shaped_none, shaped_nilT, shaped_nilL, frz, frzAll, peek, res1, resAll, stoAll, argOf, argsOf, bors, wback, outAt, outsFrom, ownsStay, retv, wipeF, unwipe, sto, isNone, tyD, cY, cMul, cMod, cDiv, cPow, Cell.dat, b2n, frzS, frzL, fzV, atI, ixN, fMulL]; (try first | rfl | exact ⟨rfl, rfl⟩ | exact ⟨rfl, rfl, rfl⟩ | exact ⟨rfl, rfl, rfl, rfl⟩ | exact ⟨rfl, rfl, rfl, rfl, rfl⟩)) (fin (repD 2 [.int (b2n t + 1), .int (b2n t - 1), .int (0 - b2n t), .str (if t then "True" else "False"), .bool (decide (b2n t = 1))]) (by rw [repD_len]; simp) (fun x m => ?_)))
    · cases t <;> simp [mVar_ap, mLit_ap, m2_ap, mB_ap, mAndT_ap, mOrT_ap, mNotT_ap, mAndV_ap, mOrV_ap, mNotV_ap, mIfE_ap, mNil_ap, mCons_ap, mDisp_ap, gSet_ap, gsNil_ap, gsCons_ap, gTupD_ap, mSet_ap, mAsg_ap, mPar_ap, mExpr_ap, mRet_ap, mRetN_ap, mNext_ap, mBreak_ap, mCont_ap, mSeq_ap, mIf_ap, iSeq_ap, iRan_ap, iRan2_ap, iEnm_ap, iZp_ap, mFor_ap, mWhile_ap, mCall_ap, mkD_ap, mLc_ap, fI_ap, fAdd_ap, fSub_ap, fMul_ap, fMod_ap, fDiv_ap, fPow_ap, fLt_ap, fLe_ap, fGt_ap, fGe_ap, fIsN_ap, fNotN_ap, fIsB_ap, fIx_ap, fAddX_ap, fSubX_ap, fMulX_ap, m1_ap, fNeg_ap, mB1_ap, fLen_ap, fAbs_ap, fInt_ap, fMin2_ap, fMax2_ap, fList_ap, fTuple_ap, fStr_ap, mMt_ap, mMtZ_ap, fAppend_ap, fInsert_ap, fExtend_ap, fPopAt_ap, mChain_ap, oNone_ap, oSome_ap, mSl_ap, gIx_ap, fInX_ap, fNotInX_ap, mIsi_ap, fEqX_ap, fNeX_ap, fAll_ap, fAny_ap, fSum_ap, fSorted_ap, fBest_ap, fIdx_ap, fRepr_ap, mPermA_ap, fBack_ap, gSplice_ap, mSortSet_ap, fMulY_ap, mTupRan_ap, mFz_ap, mGh_ap, fIsX_ap, mGhO_ap, ia_none_int, ia_none_bool, ia_none_list, ia_none_tuple, ia_none_str, ia_none_seq, ia_bool_int, ia_bool_bool, ia_bool_list, ia_bool_tuple, ia_bool_str, ia_bool_seq, ia_int_int, ia_int_bool, ia_int_list, ia_int_tuple, ia_int_str, ia_int_seq, ia_str_int, ia_str_bool, ia_str_list, ia_str_tuple, ia_str_str, ia_str_seq, ia_list_int, ia_list_bool, ia_list_list, ia_list_tuple, ia_list_str, ia_list_seq, ia_tuple_int, ia_tuple_bool, ia_tuple_list, ia_tuple_tuple, ia_tuple_str, ia_tuple_seq, mLst_ap, mTup_ap, mYes_ap, sizeLine_v, shaped_int, eqv_int, shaped_bool, eqv_bool, shaped_none, shaped_nilT, shaped_nilL, frz, frzAll, peek, res1, resAll, stoAll, argOf, argsOf, bors, wback, outAt, outsFrom, ownsStay, retv, wipeF, unwipe, sto, isNone, tyD, cY, cMul, cMod, cDiv, cPow, Cell.dat, b2n, frzS, frzL, fzV, atI, ixN, fMulL, K0a, K0b, b2n, repD, PyData.eqv]
    · have m := repD_mem m
      have e1 := okStr "True" (by decide) l (b + 1) (h + 2)
      have e2 := okStr "False" (by decide) l (b + 1) (h + 2)
      simp only [List.mem_cons, List.not_mem_nil, or_false] at m
      rcases m with rfl | rfl | rfl | rfl | rfl
      · cases t <;> simp [Ok, sz, b2n] <;> omega
      · cases t <;> simp [Ok, sz, b2n] <;> omega
      · cases t <;> simp [Ok, sz, b2n] <;> omega
      · cases t
        · exact ⟨e2.1, Nat.le_trans e2.2 (by omega)⟩
        · exact ⟨e1.1, Nat.le_trans e1.2 (by omega)⟩
      · exact ⟨trivial, by simp only [sz]; omega⟩
  | h, .int i, o =>
    simp only [Ok] at o
    have hlog : i.natAbs.log2 < 1920 := by
      by_cases z : i.natAbs = 0
      · rw [z]; decide
      · exact (Nat.log2_lt z).2 (Nat.lt_of_lt_of_le (Nat.lt_of_lt_of_le o hb2) (Nat.le_trans (show 10 ^ 50 ≤ 2 ^ 200 by decide) (Nat.pow_le_pow_right (by decide) (by decide))))
    refine wp_nx (fm1 := [some (.own (.lst q)), some (.dat (.int i)), some (.dat (.list (K0a ++ K0b ++ repD 2 [.int (i + 1), .int (i - 1), .int (0 - i), .str (toString i), .bool (decide (i = 1))])))]) ?_ (wp_nx (by simp [mVar_ap, mLit_ap, m2_ap, mB_ap, mAndT_ap, mOrT_ap, mNotT_ap, mAndV_ap, mOrV_ap, mNotV_ap, mIfE_ap, mNil_ap, mCons_ap, mDisp_ap, gSet_ap, gsNil_ap, gsCons_ap, gTupD_ap, mSet_ap, mAsg_ap, mPar_ap, mExpr_ap, mRet_ap, mRetN_ap, mNext_ap, mBreak_ap, mCont_ap, mSeq_ap, mIf_ap, iSeq_ap, iRan_ap, iRan2_ap, iEnm_ap, iZp_ap, mFor_ap, mWhile_ap, mCall_ap, mkD_ap, mLc_ap, fI_ap, fAdd_ap, fSub_ap, fMul_ap, fMod_ap, fDiv_ap, fPow_ap, fLt_ap, fLe_ap, fGt_ap, fGe_ap, fIsN_ap, fNotN_ap, fIsB_ap, fIx_ap, fAddX_ap, fSubX_ap, fMulX_ap, m1_ap, fNeg_ap, mB1_ap, fLen_ap, fAbs_ap, fInt_ap, fMin2_ap, fMax2_ap, fList_ap, fTuple_ap, fStr_ap, mMt_ap, mMtZ_ap, fAppend_ap, fInsert_ap, fExtend_ap, fPopAt_ap, mChain_ap, oNone_ap, oSome_ap, mSl_ap, gIx_ap, fInX_ap, fNotInX_ap, mIsi_ap, fEqX_ap, fNeX_ap, fAll_ap, fAny_ap, fSum_ap, fSorted_ap, fBest_ap, fIdx_ap, fRepr_ap, mPermA_ap, fBack_ap, gSplice_ap, mSortSet_ap, fMulY_ap, mTupRan_ap, mFz_ap, mGh_ap, fIsX_ap, mGhO_ap, ia_none_int, ia_none_bool, ia_none_list, ia_none_tuple, ia_none_str, ia_none_seq, ia_bool_int, ia_bool_bool, ia_bool_list, ia_bool_tuple, ia_bool_str, ia_bool_seq, ia_int_int, ia_int_bool, ia_int_list, ia_int_tuple, ia_int_str, ia_int_seq, ia_str_int, ia_str_bool, ia_str_list, ia_str_tuple, ia_str_str, ia_str_seq, ia_list_int, ia_list_bool, ia_list_list, ia_list_tuple, ia_list_str, ia_list_seq, ia_tuple_int, ia_tuple_bool, ia_tuple_list, ia_tuple_tuple, ia_tuple_str, ia_tuple_seq, mLst_ap, mTup_ap, mYes_ap, sizeLine_v, shaped_int, eqv_int, shaped_bool, eqv_bool, shaped_none, shaped_nilT, shaped_nilL, frz, frzAll, peek, res1, resAll, stoAll, argOf, argsOf, bors, wback, outAt, outsFrom, ownsStay, retv, wipeF, unwipe, sto, isNone, tyD, cY, cMul, cMod, cDiv, cPow, Cell.dat, b2n, frzS, frzL, fzV, atI, ixN, fMulL]; (try first | rfl | exact ⟨rfl, rfl⟩ | exact ⟨rfl, rfl, rfl⟩ | exact ⟨rfl, rfl, rfl, rfl⟩ | exact ⟨rfl, rfl, rfl, rfl, rfl⟩)) (fin (repD 2 [.int (i + 1), .int (i - 1), .int (0 - i), .str (toString i), .bool (decide (i = 1))]) (by rw [repD_len]; simp) (fun x m => num i o rfl x (repD_mem m))))
    simp [mVar_ap, mLit_ap, m2_ap, mB_ap, mAndT_ap, mOrT_ap, mNotT_ap, mAndV_ap, mOrV_ap, mNotV_ap, mIfE_ap, mNil_ap, mCons_ap, mDisp_ap, gSet_ap, gsNil_ap, gsCons_ap, gTupD_ap, mSet_ap, mAsg_ap, mPar_ap, mExpr_ap, mRet_ap, mRetN_ap, mNext_ap, mBreak_ap, mCont_ap, mSeq_ap, mIf_ap, iSeq_ap, iRan_ap, iRan2_ap, iEnm_ap, iZp_ap, mFor_ap, mWhile_ap, mCall_ap, mkD_ap, mLc_ap, fI_ap, fAdd_ap, fSub_ap, fMul_ap, fMod_ap, fDiv_ap, fPow_ap, fLt_ap, fLe_ap, fGt_ap, fGe_ap, fIsN_ap, fNotN_ap, fIsB_ap, fIx_ap, fAddX_ap, fSubX_ap, fMulX_ap, m1_ap, fNeg_ap, mB1_ap, fLen_ap, fAbs_ap, fInt_ap, fMin2_ap, fMax2_ap, fList_ap, fTuple_ap, fStr_ap, mMt_ap, mMtZ_ap, fAppend_ap, fInsert_ap, fExtend_ap, fPopAt_ap, mChain_ap, oNone_ap, oSome_ap, mSl_ap, gIx_ap, fInX_ap, fNotInX_ap, mIsi_ap, fEqX_ap, fNeX_ap, fAll_ap, fAny_ap, fSum_ap, fSorted_ap, fBest_ap, fIdx_ap, fRepr_ap, mPermA_ap, fBack_ap, gSplice_ap, mSortSet_ap, fMulY_ap, mTupRan_ap, mFz_ap, mGh_ap, fIsX_ap, mGhO_ap, ia_none_int, ia_none_bool, ia_none_list, ia_none_tuple, ia_none_str, ia_none_seq, ia_bool_int, ia_bool_bool, ia_bool_list, ia_bool_tuple, ia_bool_str, ia_bool_seq, ia_int_int, ia_int_bool, ia_int_list, ia_int_tuple, ia_int_str, ia_int_seq, ia_str_int, ia_str_bool, ia_str_list, ia_str_tuple, ia_str_str, ia_str_seq, ia_list_int, ia_list_bool, ia_list_list, ia_list_tuple, ia_list_str, ia_list_seq, ia_tuple_int, ia_tuple_bool, ia_tuple_list, ia_tuple_tuple, ia_tuple_str, ia_tuple_seq, mLst_ap, mTup_ap, mYes_ap, sizeLine_v, shaped_int, eqv_int, shaped_bool, eqv_bool, shaped_none, shaped_nilT, shaped_nilL, frz, frzAll, peek, res1, resAll, stoAll, argOf, argsOf, bors, wback, outAt, outsFrom, ownsStay, retv, wipeF, unwipe, sto, isNone, tyD, cY, cMul, cMod, cDiv, cPow, Cell.dat, b2n, frzS, frzL, fzV, atI, ixN, fMulL, K0a, K0b, repD, hlog]
  | 0, .dict _, o => simp [Ok] at o
  | h + 1, .dict _, o => simp [Ok] at o
  | 0, .list _, o => simp [Ok] at o
  | 0, .tuple _, o => simp [Ok] at o
  | h + 1, .list ds, o =>
    simp only [Ok] at o
    refine wp_nx (by simp [mVar_ap, mLit_ap, m2_ap, mB_ap, mAndT_ap, mOrT_ap, mNotT_ap, mAndV_ap, mOrV_ap, mNotV_ap, mIfE_ap, mNil_ap, mCons_ap, mDisp_ap, gSet_ap, gsNil_ap, gsCons_ap, gTupD_ap, mSet_ap, mAsg_ap, mPar_ap, mExpr_ap, mRet_ap, mRetN_ap, mNext_ap, mBreak_ap, mCont_ap, mSeq_ap, mIf_ap, iSeq_ap, iRan_ap, iRan2_ap, iEnm_ap, iZp_ap, mFor_ap, mWhile_ap, mCall_ap, mkD_ap, mLc_ap, fI_ap, fAdd_ap, fSub_ap, fMul_ap, fMod_ap, fDiv_ap, fPow_ap, fLt_ap, fLe_ap, fGt_ap, fGe_ap, fIsN_ap, fNotN_ap, fIsB_ap, fIx_ap, fAddX_ap, fSubX_ap, fMulX_ap, m1_ap, fNeg_ap, mB1_ap, fLen_ap, fAbs_ap, fInt_ap, fMin2_ap, fMax2_ap, fList_ap, fTuple_ap, fStr_ap, mMt_ap, mMtZ_ap, fAppend_ap, fInsert_ap, fExtend_ap, fPopAt_ap, mChain_ap, oNone_ap, oSome_ap, mSl_ap, gIx_ap, fInX_ap, fNotInX_ap, mIsi_ap, fEqX_ap, fNeX_ap, fAll_ap, fAny_ap, fSum_ap, fSorted_ap, fBest_ap, fIdx_ap, fRepr_ap, mPermA_ap, fBack_ap, gSplice_ap, mSortSet_ap, fMulY_ap, mTupRan_ap, mFz_ap, mGh_ap, fIsX_ap, mGhO_ap, ia_none_int, ia_none_bool, ia_none_list, ia_none_tuple, ia_none_str, ia_none_seq, ia_bool_int, ia_bool_bool, ia_bool_list, ia_bool_tuple, ia_bool_str, ia_bool_seq, ia_int_int, ia_int_bool, ia_int_list, ia_int_tuple, ia_int_str, ia_int_seq, ia_str_int, ia_str_bool, ia_str_list, ia_str_tuple, ia_str_str, ia_str_seq, ia_list_int, ia_list_bool, ia_list_list, ia_list_tuple, ia_list_str, ia_list_seq, ia_tuple_int, ia_tuple_bool, ia_tuple_list, ia_tuple_tuple, ia_tuple_str, ia_tuple_seq, mLst_ap, mTup_ap, mYes_ap, sizeLine_v, shaped_int, eqv_int, shaped_bool, eqv_bool, shaped_none, shaped_nilT, shaped_nilL, frz, frzAll, peek, res1, resAll, stoAll, argOf, argsOf, bors, wback, outAt, outsFrom, ownsStay, retv, wipeF, unwipe, sto, isNone, tyD, cY, cMul, cMod, cDiv, cPow, Cell.dat, b2n, frzS, frzL, fzV, atI, ixN, fMulL]; (try first | rfl | exact ⟨rfl, rfl⟩ | exact ⟨rfl, rfl, rfl⟩ | exact ⟨rfl, rfl, rfl, rfl⟩ | exact ⟨rfl, rfl, rfl, rfl, rfl⟩)) (wp_nx (fm1 := [some (.own (.lst q)), some (.dat (.list ds)), some (.dat (.list (K0a ++ K0b ++ repD 2 [.list ds, .tuple ds, .list ds.reverse, .list (Rf.cutD ds (some 1) none), .list (Rf.cutD ds none (some (-1)))])))]) ?_ (fin (repD 2 [.list ds, .tuple ds, .list ds.reverse, .list (Rf.cutD ds (some 1) none), .list (Rf.cutD ds none (some (-1)))]) (by rw [repD_len]; simp) (fun x m => seq ds o.1 (fun x m => (o.2 x m)) (by omega) (by simp [sz]) x ?_)))
    · simp [mVar_ap, mLit_ap, m2_ap, mB_ap, mAndT_ap, mOrT_ap, mNotT_ap, mAndV_ap, mOrV_ap, mNotV_ap, mIfE_ap, mNil_ap, mCons_ap, mDisp_ap, gSet_ap, gsNil_ap, gsCons_ap, gTupD_ap, mSet_ap, mAsg_ap, mPar_ap, mExpr_ap, mRet_ap, mRetN_ap, mNext_ap, mBreak_ap, mCont_ap, mSeq_ap, mIf_ap, iSeq_ap, iRan_ap, iRan2_ap, iEnm_ap, iZp_ap, mFor_ap, mWhile_ap, mCall_ap, mkD_ap, mLc_ap, fI_ap, fAdd_ap, fSub_ap, fMul_ap, fMod_ap, fDiv_ap, fPow_ap, fLt_ap, fLe_ap, fGt_ap, fGe_ap, fIsN_ap, fNotN_ap, fIsB_ap, fIx_ap, fAddX_ap, fSubX_ap, fMulX_ap, m1_ap, fNeg_ap, mB1_ap, fLen_ap, fAbs_ap, fInt_ap, fMin2_ap, fMax2_ap, fList_ap, fTuple_ap, fStr_ap, mMt_ap, mMtZ_ap, fAppend_ap, fInsert_ap, fExtend_ap, fPopAt_ap, mChain_ap, oNone_ap, oSome_ap, mSl_ap, gIx_ap, fInX_ap, fNotInX_ap, mIsi_ap, fEqX_ap, fNeX_ap, fAll_ap, fAny_ap, fSum_ap, fSorted_ap, fBest_ap, fIdx_ap, fRepr_ap, mPermA_ap, fBack_ap, gSplice_ap, mSortSet_ap, fMulY_ap, mTupRan_ap, mFz_ap, mGh_ap, fIsX_ap, mGhO_ap, ia_none_int, ia_none_bool, ia_none_list, ia_none_tuple, ia_none_str, ia_none_seq, ia_bool_int, ia_bool_bool, ia_bool_list, ia_bool_tuple, ia_bool_str, ia_bool_seq, ia_int_int, ia_int_bool, ia_int_list, ia_int_tuple, ia_int_str, ia_int_seq, ia_str_int, ia_str_bool, ia_str_list, ia_str_tuple, ia_str_str, ia_str_seq, ia_list_int, ia_list_bool, ia_list_list, ia_list_tuple, ia_list_str, ia_list_seq, ia_tuple_int, ia_tuple_bool, ia_tuple_list, ia_tuple_tuple, ia_tuple_str, ia_tuple_seq, mLst_ap, mTup_ap, mYes_ap, sizeLine_v, shaped_int, eqv_int, shaped_bool, eqv_bool, shaped_none, shaped_nilT, shaped_nilL, frz, frzAll, peek, res1, resAll, stoAll, argOf, argsOf, bors, wback, outAt, outsFrom, ownsStay, retv, wipeF, unwipe, sto, isNone, tyD, cY, cMul, cMod, cDiv, cPow, Cell.dat, b2n, frzS, frzL, fzV, atI, ixN, fMulL, K0a, K0b, repD]
    · have m := repD_mem m
      simp only [List.mem_cons, List.not_mem_nil, or_false] at m
      rcases m with rfl | rfl | rfl | rfl | rfl
      · exact .inl rfl
      · exact .inr (.inl rfl)
      · exact .inr (.inr (.inl rfl))
      · exact .inr (.inr (.inr (.inr (.inl ⟨_, _, rfl⟩))))
      · exact .inr (.inr (.inr (.inr (.inl ⟨_, _, rfl⟩))))
  | h + 1, .tuple ds, o =>
    simp only [Ok] at o
    refine wp_nx (by simp [mVar_ap, mLit_ap, m2_ap, mB_ap, mAndT_ap, mOrT_ap, mNotT_ap, mAndV_ap, mOrV_ap, mNotV_ap, mIfE_ap, mNil_ap, mCons_ap, mDisp_ap, gSet_ap, gsNil_ap, gsCons_ap, gTupD_ap, mSet_ap, mAsg_ap, mPar_ap, mExpr_ap, mRet_ap, mRetN_ap, mNext_ap, mBreak_ap, mCont_ap, mSeq_ap, mIf_ap, iSeq_ap, iRan_ap, iRan2_ap, iEnm_ap, iZp_ap, mFor_ap, mWhile_ap, mCall_ap, mkD_ap, mLc_ap, fI_ap, fAdd_ap, fSub_ap, fMul_ap, fMod_ap, fDiv_ap, fPow_ap, fLt_ap, fLe_ap, fGt_ap, fGe_ap, fIsN_ap, fNotN_ap, fIsB_ap, fIx_ap, fAddX_ap, fSubX_ap, fMulX_ap, m1_ap, fNeg_ap, mB1_ap, fLen_ap, fAbs_ap, fInt_ap, fMin2_ap, fMax2_ap, fList_ap, fTuple_ap, fStr_ap, mMt_ap, mMtZ_ap, fAppend_ap, fInsert_ap, fExtend_ap, fPopAt_ap, mChain_ap, oNone_ap, oSome_ap, mSl_ap, gIx_ap, fInX_ap, fNotInX_ap, mIsi_ap, fEqX_ap, fNeX_ap, fAll_ap, fAny_ap, fSum_ap, fSorted_ap, fBest_ap, fIdx_ap, fRepr_ap, mPermA_ap, fBack_ap, gSplice_ap, mSortSet_ap, fMulY_ap, mTupRan_ap, mFz_ap, mGh_ap, fIsX_ap, mGhO_ap, ia_none_int, ia_none_bool, ia_none_list, ia_none_tuple, ia_none_str, ia_none_seq, ia_bool_int, ia_bool_bool, ia_bool_list, ia_bool_tuple, ia_bool_str, ia_bool_seq, ia_int_int, ia_int_bool, ia_int_list, ia_int_tuple, ia_int_str, ia_int_seq, ia_str_int, ia_str_bool, ia_str_list, ia_str_tuple, ia_str_str, ia_str_seq, ia_list_int, ia_list_bool, ia_list_list, ia_list_tuple, ia_list_str, ia_list_seq, ia_tuple_int, ia_tuple_bool, ia_tuple_list, ia_tuple_tuple, ia_tuple_str, ia_tuple_seq, mLst_ap, mTup_ap, mYes_ap, sizeLine_v, shaped_int, eqv_int, shaped_bool, eqv_bool, shaped_none, shaped_nilT, shaped_nilL, frz, frzAll, peek, res1, resAll, stoAll, argOf, argsOf, bors, wback, outAt, outsFrom, ownsStay, retv, wipeF, unwipe, sto, isNone, tyD, cY, cMul, cMod, cDiv, cPow, Cell.dat, b2n, frzS, frzL, fzV, atI, ixN, fMulL]; (try first | rfl | exact ⟨rfl, rfl⟩ | exact ⟨rfl, rfl, rfl⟩ | exact ⟨rfl, rfl, rfl, rfl⟩ | exact ⟨rfl, rfl, rfl, rfl, rfl⟩)) (wp_nx (fm1 := [some (.own (.lst q)), some (.dat (.tuple ds)), some (.dat (.list (K0a ++ K0b ++ repD 2 [.list ds, .tuple ds, .tuple ds.reverse, .tuple (Rf.cutD ds (some 1) none), .tuple (Rf.cutD ds none (some (-1)))])))]) ?_ (fin (repD 2 [.list ds, .tuple ds, .tuple ds.reverse, .tuple (Rf.cutD ds (some 1) none), .tuple (Rf.cutD ds none (some (-1)))]) (by rw [repD_len]; simp) (fun x m => seq ds o.1 (fun x m => (o.2 x m)) (by omega) (by simp [sz]) x ?_)))
    · simp [mVar_ap, mLit_ap, m2_ap, mB_ap, mAndT_ap, mOrT_ap, mNotT_ap, mAndV_ap, mOrV_ap, mNotV_ap, mIfE_ap, mNil_ap, mCons_ap, mDisp_ap, gSet_ap, gsNil_ap, gsCons_ap, gTupD_ap, mSet_ap, mAsg_ap, mPar_ap, mExpr_ap, mRet_ap, mRetN_ap, mNext_ap, mBreak_ap, mCont_ap, mSeq_ap, mIf_ap, iSeq_ap, iRan_ap, iRan2_ap, iEnm_ap, iZp_ap, mFor_ap, mWhile_ap, mCall_ap, mkD_ap, mLc_ap, fI_ap, fAdd_ap, fSub_ap, fMul_ap, fMod_ap, fDiv_ap, fPow_ap, fLt_ap, fLe_ap, fGt_ap, fGe_ap, fIsN_ap, fNotN_ap, fIsB_ap, fIx_ap, fAddX_ap, fSubX_ap, fMulX_ap, m1_ap, fNeg_ap, mB1_ap, fLen_ap, fAbs_ap, fInt_ap, fMin2_ap, fMax2_ap, fList_ap, fTuple_ap, fStr_ap, mMt_ap, mMtZ_ap, fAppend_ap, fInsert_ap, fExtend_ap, fPopAt_ap, mChain_ap, oNone_ap, oSome_ap, mSl_ap, gIx_ap, fInX_ap, fNotInX_ap, mIsi_ap, fEqX_ap, fNeX_ap, fAll_ap, fAny_ap, fSum_ap, fSorted_ap, fBest_ap, fIdx_ap, fRepr_ap, mPermA_ap, fBack_ap, gSplice_ap, mSortSet_ap, fMulY_ap, mTupRan_ap, mFz_ap, mGh_ap, fIsX_ap, mGhO_ap, ia_none_int, ia_none_bool, ia_none_list, ia_none_tuple, ia_none_str, ia_none_seq, ia_bool_int, ia_bool_bool, ia_bool_list, ia_bool_tuple, ia_bool_str, ia_bool_seq, ia_int_int, ia_int_bool, ia_int_list, ia_int_tuple, ia_int_str, ia_int_seq, ia_str_int, ia_str_bool, ia_str_list, ia_str_tuple, ia_str_str, ia_str_seq, ia_list_int, ia_list_bool, ia_list_list, ia_list_tuple, ia_list_str, ia_list_seq, ia_tuple_int, ia_tuple_bool, ia_tuple_list, ia_tuple_tuple, ia_tuple_str, ia_tuple_seq, mLst_ap, mTup_ap, mYes_ap, sizeLine_v, shaped_int, eqv_int, shaped_bool, eqv_bool, shaped_none, shaped_nilT, shaped_nilL, frz, frzAll, peek, res1, resAll, stoAll, argOf, argsOf, bors, wback, outAt, outsFrom, ownsStay, retv, wipeF, unwipe, sto, isNone, tyD, cY, cMul, cMod, cDiv, cPow, Cell.dat, b2n, frzS, frzL, fzV, atI, ixN, fMulL, K0a, K0b, repD]
    · have m := repD_mem m
      simp only [List.mem_cons, List.not_mem_nil, or_false] at m
      rcases m with rfl | rfl | rfl | rfl | rfl
      · exact .inl rfl
      · exact .inr (.inl rfl)
      · exact .inr (.inr (.inr (.inl rfl)))
      · exact .inr (.inr (.inr (.inr (.inr ⟨_, _, rfl⟩))))
      · exact .inr (.inr (.inr (.inr (.inr ⟨_, _, rfl⟩))))
/-! bent -/
/-- what bent gives -/
def SpBent (l b h : Nat) (D : Dm) : Prop := ∀ (C : Int) (s : S0) (d : PyData), Bx C s → C + 20 + 4 * (h : Int) ≤ BC → Ok l b h d → Ev D [s, .dat d] fun v outs => ∃ x s', outs = [s', .dat d] ∧ Bx (C + 4 * ((h : Int) + 1)) s' ∧ Ok (l + 1) (b + 1) (h + 2) x ∧ sz x ≤ 2 * sz d + 1000 ∧ (v = .dat x ∨ ∃ ds, v = .fre (.lst ds) ∧ x = .list ds)
theorem cut_two {ds : List PyData} {a : Int} (h0 : 0 ≤ a) (h1 : a.toNat < ds.length) : (Rf.cutD ds (some a) (some (a + 2))).length ≤ 2 ∧ (Rf.cutD ds (some a) (some (a + 2))).length ≤ ds.length - a.toNat := by
  have e1 : HT.sIx ds.length 0 (some a) = a.toNat := by simp only [HT.sIx]; rw [if_neg (by omega)]; omega
  have e2 : HT.sIx ds.length ds.length (some (a + 2)) ≤ a.toNat + 2 := by simp only [HT.sIx]; rw [if_neg (by omega)]; omega
  simp only [Rf.cutD, List.length_take, List.length_drop, e1]
  omega
theorem bent_odd {Tk O Bn : Dm} (hO : SpOdd O) {C : Int} {s s1 : S0} {d : PyData} {l b h : Nat} (hl : 3 ≤ l) (hl2 : l ≤ 900) (hb : 2 ≤ b) (hb2 : b ≤ 10 ^ 50) (hs : Bx C s) (hC : C + 20 + 4 * (h : Int) ≤ BC) (o : Ok l b h d) (hs1 : Bx (C + 1) s1)
    (e : mOrT (mNotT (mB (mIsi ["list", "tuple"] (mVar 1)))) (mOrT (mB (m2 fEqX (mB1 fLen (mCons (mVar 1) mNil)) (mLit (.int 0)))) (mB (m2 fEqX (mCall Tk (mFz (mCons (mVar 0) (mCons (mLit (.int 6)) mNil)))) (mLit (.int 0))))) [some s, some (.dat d), none, none, none] = some (true, [some s1, some (.dat d), none, none, none])) :
    Ev (B_bent Tk O Bn) [s, .dat d] fun v outs => ∃ x s', outs = [s', .dat d] ∧ Bx (C + 4 * ((h : Int) + 1)) s' ∧ Ok (l + 1) (b + 1) (h + 2) x ∧ sz x ≤ 2 * sz d + 1000 ∧ (v = .dat x ∨ ∃ ds, v = .fre (.lst ds) ∧ x = .list ds) := by
  have hC' : C + 20 + 4 * (h : Int) ≤ 100000000 := hC
  obtain ⟨_, _, e1, x, s', rfl, rfl, e2, e3, e4⟩ := hO _ s1 d l b h hs1 (by show _ ≤ (100000000 : Int); omega) o hl (by omega) hb hb2
  obtain ⟨q, rfl⟩ := hs1.own
  obtain ⟨q', rfl⟩ := e2.own
  refine mkD_wp rfl (wp_rt (v := .dat x) (fm1 := [some (.own (.lst q')), some (.dat d), none, none, none]) ?_ ⟨_, _, _, _, rfl, rfl, by simp [mVar_ap, mLit_ap, m2_ap, mB_ap, mAndT_ap, mOrT_ap, mNotT_ap, mAndV_ap, mOrV_ap, mNotV_ap, mIfE_ap, mNil_ap, mCons_ap, mDisp_ap, gSet_ap, gsNil_ap, gsCons_ap, gTupD_ap, mSet_ap, mAsg_ap, mPar_ap, mExpr_ap, mRet_ap, mRetN_ap, mNext_ap, mBreak_ap, mCont_ap, mSeq_ap, mIf_ap, iSeq_ap, iRan_ap, iRan2_ap, iEnm_ap, iZp_ap, mFor_ap, mWhile_ap, mCall_ap, mkD_ap, mLc_ap, fI_ap, fAdd_ap, fSub_ap, fMul_ap, fMod_ap, fDiv_ap, fPow_ap, fLt_ap, fLe_ap, fGt_ap, fGe_ap, fIsN_ap, fNotN_ap, fIsB_ap, fIx_ap, fAddX_ap, fSubX_ap, fMulX_ap, m1_ap, fNeg_ap, mB1_ap, fLen_ap, fAbs_ap, fInt_ap, fMin2_ap, fMax2_ap, fList_ap, fTuple_ap, fStr_ap, mMt_ap, mMtZ_ap, fAppend_ap, fInsert_ap, fExtend_ap, fPopAt_ap, mChain_ap, oNone_ap, oSome_ap, mSl_ap, gIx_ap, fInX_ap, fNotInX_ap, mIsi_ap, fEqX_ap, fNeX_ap, fAll_ap, fAny_ap, fSum_ap, fSorted_ap, fBest_ap, fIdx_ap, fRepr_ap, mPermA_ap, fBack_ap, gSplice_ap, mSortSet_ap, fMulY_ap, mTupRan_ap, mFz_ap, mGh_ap, fIsX_ap, mGhO_ap, ia_none_int, ia_none_bool, ia_none_list, ia_none_tuple, ia_none_str, ia_none_seq, ia_bool_int, ia_bool_bool, ia_bool_list, ia_bool_tuple, ia_bool_str, ia_bool_seq, ia_int_int, ia_int_bool, ia_int_list, ia_int_tuple, ia_int_str, ia_int_seq, ia_str_int, ia_str_bool, ia_str_list, ia_str_tuple, ia_str_str, ia_str_seq, ia_list_int, ia_list_bool, ia_list_list, ia_list_tuple, ia_list_str, ia_list_seq, ia_tuple_int, ia_tuple_bool, ia_tuple_list, ia_tuple_tuple, ia_tuple_str, ia_tuple_seq, mLst_ap, mTup_ap, mYes_ap, sizeLine_v, shaped_int, eqv_int, shaped_bool, eqv_bool, shaped_none, shaped_nilT, shaped_nilL, frz, frzAll, peek, res1, resAll, stoAll, argOf, argsOf, bors, wback, outAt, outsFrom, ownsStay, retv, wipeF, unwipe, sto, isNone, tyD, cY, cMul, cMod, cDiv, cPow, Cell.dat, b2n, frzS, frzL, fzV, fMulL]; (try first | rfl | exact ⟨rfl, rfl⟩ | exact ⟨rfl, rfl, rfl⟩ | exact ⟨rfl, rfl, rfl, rfl⟩ | exact ⟨rfl, rfl, rfl, rfl, rfl⟩), x, _, rfl, e2.mono (by omega), e3.mono (by omega) (Nat.le_refl _) (Nat.le_refl _), by omega, .inl rfl⟩)
  exact (if_t e).trans (by simp [mVar_ap, mLit_ap, m2_ap, mB_ap, mAndT_ap, mOrT_ap, mNotT_ap, mAndV_ap, mOrV_ap, mNotV_ap, mIfE_ap, mNil_ap, mCons_ap, mDisp_ap, gSet_ap, gsNil_ap, gsCons_ap, gTupD_ap, mSet_ap, mAsg_ap, mPar_ap, mExpr_ap, mRet_ap, mRetN_ap, mNext_ap, mBreak_ap, mCont_ap, mSeq_ap, mIf_ap, iSeq_ap, iRan_ap, iRan2_ap, iEnm_ap, iZp_ap, mFor_ap, mWhile_ap, mCall_ap, mkD_ap, mLc_ap, fI_ap, fAdd_ap, fSub_ap, fMul_ap, fMod_ap, fDiv_ap, fPow_ap, fLt_ap, fLe_ap, fGt_ap, fGe_ap, fIsN_ap, fNotN_ap, fIsB_ap, fIx_ap, fAddX_ap, fSubX_ap, fMulX_ap, m1_ap, fNeg_ap, mB1_ap, fLen_ap, fAbs_ap, fInt_ap, fMin2_ap, fMax2_ap, fList_ap, fTuple_ap, fStr_ap, mMt_ap, mMtZ_ap, fAppend_ap, fInsert_ap, fExtend_ap, fPopAt_ap, mChain_ap, oNone_ap, oSome_ap, mSl_ap, gIx_ap, fInX_ap, fNotInX_ap, mIsi_ap, fEqX_ap, fNeX_ap, fAll_ap, fAny_ap, fSum_ap, fSorted_ap, fBest_ap, fIdx_ap, fRepr_ap, mPermA_ap, fBack_ap, gSplice_ap, mSortSet_ap, fMulY_ap, mTupRan_ap, mFz_ap, mGh_ap, fIsX_ap, mGhO_ap, ia_none_int, ia_none_bool, ia_none_list, ia_none_tuple, ia_none_str, ia_none_seq, ia_bool_int, ia_bool_bool, ia_bool_list, ia_bool_tuple, ia_bool_str, ia_bool_seq, ia_int_int, ia_int_bool, ia_int_list, ia_int_tuple, ia_int_str, ia_int_seq, ia_str_int, ia_str_bool, ia_str_list, ia_str_tuple, ia_str_str, ia_str_seq, ia_list_int, ia_list_bool, ia_list_list, ia_list_tuple, ia_list_str, ia_list_seq, ia_tuple_int, ia_tuple_bool, ia_tuple_list, ia_tuple_tuple, ia_tuple_str, ia_tuple_seq, mLst_ap, mTup_ap, mYes_ap, sizeLine_v, shaped_int, eqv_int, shaped_bool, eqv_bool, shaped_none, shaped_nilT, shaped_nilL, frz, frzAll, peek, res1, resAll, stoAll, argOf, argsOf, bors, wback, outAt, outsFrom, ownsStay, retv, wipeF, unwipe, sto, isNone, tyD, cY, cMul, cMod, cDiv, cPow, Cell.dat, b2n, frzS, frzL, fzV, fMulL, e1])
theorem bent_0 {Tk O Bn : Dm} {l b : Nat} (hl : 3 ≤ l) (hl2 : l ≤ 900) (hb : 2 ≤ b) (hb2 : b ≤ 10 ^ 50) (hO : SpOdd O) : SpBent l b 0 (B_bent Tk O Bn) := by
  intro C s d hs hC o
  obtain ⟨q, rfl⟩ := hs.own
  refine bent_odd hO hl hl2 hb hb2 hs hC o (hs.mono (by omega)) ?_
  match d, o with
  | .none, _ => simp [mVar_ap, mLit_ap, m2_ap, mB_ap, mAndT_ap, mOrT_ap, mNotT_ap, mAndV_ap, mOrV_ap, mNotV_ap, mIfE_ap, mNil_ap, mCons_ap, mDisp_ap, gSet_ap, gsNil_ap, gsCons_ap, gTupD_ap, mSet_ap, mAsg_ap, mPar_ap, mExpr_ap, mRet_ap, mRetN_ap, mNext_ap, mBreak_ap, mCont_ap, mSeq_ap, mIf_ap, iSeq_ap, iRan_ap, iRan2_ap, iEnm_ap, iZp_ap, mFor_ap, mWhile_ap, mCall_ap, mkD_ap, mLc_ap, fI_ap, fAdd_ap, fSub_ap, fMul_ap, fMod_ap, fDiv_ap, fPow_ap, fLt_ap, fLe_ap, fGt_ap, fGe_ap, fIsN_ap, fNotN_ap, fIsB_ap, fIx_ap, fAddX_ap, fSubX_ap, fMulX_ap, m1_ap, fNeg_ap, mB1_ap, fLen_ap, fAbs_ap, fInt_ap, fMin2_ap, fMax2_ap, fList_ap, fTuple_ap, fStr_ap, mMt_ap, mMtZ_ap, fAppend_ap, fInsert_ap, fExtend_ap, fPopAt_ap, mChain_ap, oNone_ap, oSome_ap, mSl_ap, gIx_ap, fInX_ap, fNotInX_ap, mIsi_ap, fEqX_ap, fNeX_ap, fAll_ap, fAny_ap, fSum_ap, fSorted_ap, fBest_ap, fIdx_ap, fRepr_ap, mPermA_ap, fBack_ap, gSplice_ap, mSortSet_ap, fMulY_ap, mTupRan_ap, mFz_ap, mGh_ap, fIsX_ap, mGhO_ap, ia_none_int, ia_none_bool, ia_none_list, ia_none_tuple, ia_none_str, ia_none_seq, ia_bool_int, ia_bool_bool, ia_bool_list, ia_bool_tuple, ia_bool_str, ia_bool_seq, ia_int_int, ia_int_bool, ia_int_list, ia_int_tuple, ia_int_str, ia_int_seq, ia_str_int, ia_str_bool, ia_str_list, ia_str_tuple, ia_str_str, ia_str_seq, ia_list_int, ia_list_bool, ia_list_list, ia_list_tuple, ia_list_str, ia_list_seq, ia_tuple_int, ia_tuple_bool, ia_tuple_list, ia_tuple_tuple, ia_tuple_str, ia_tuple_seq, mLst_ap, mTup_ap, mYes_ap, sizeLine_v, shaped_int, eqv_int, shaped_bool, eqv_bool, shaped_none, shaped_nilT, shaped_nilL, frz, frzAll, peek, res1, resAll, stoAll, argOf, argsOf, bors, wback, outAt, outsFrom, ownsStay, retv, wipeF, unwipe, sto, isNone, tyD, cY, cMul, cMod, cDiv, cPow, Cell.dat, b2n, frzS, frzL, fzV, atI, ixN, fMulL]
  | .bool _, _ => simp [mVar_ap, mLit_ap, m2_ap, mB_ap, mAndT_ap, mOrT_ap, mNotT_ap, mAndV_ap, mOrV_ap, mNotV_ap, mIfE_ap, mNil_ap, mCons_ap, mDisp_ap, gSet_ap, gsNil_ap, gsCons_ap, gTupD_ap, mSet_ap, mAsg_ap, mPar_ap, mExpr_ap, mRet_ap, mRetN_ap, mNext_ap, mBreak_ap, mCont_ap, mSeq_ap, mIf_ap, iSeq_ap, iRan_ap, iRan2_ap, iEnm_ap, iZp_ap, mFor_ap, mWhile_ap, mCall_ap, mkD_ap, mLc_ap, fI_ap, fAdd_ap, fSub_ap, fMul_ap, fMod_ap, fDiv_ap, fPow_ap, fLt_ap, fLe_ap, fGt_ap, fGe_ap, fIsN_ap, fNotN_ap, fIsB_ap, fIx_ap, fAddX_ap, fSubX_ap, fMulX_ap, m1_ap, fNeg_ap, mB1_ap, fLen_ap, fAbs_ap, fInt_ap, fMin2_ap, fMax2_ap, fList_ap, fTuple_ap, fStr_ap, mMt_ap, mMtZ_ap, fAppend_ap, fInsert_ap, fExtend_ap, fPopAt_ap, mChain_ap, oNone_ap, oSome_ap, mSl_ap, gIx_ap, fInX_ap, fNotInX_ap, mIsi_ap, fEqX_ap, fNeX_ap, fAll_ap, fAny_ap, fSum_ap, fSorted_ap, fBest_ap, fIdx_ap, fRepr_ap, mPermA_ap, fBack_ap, gSplice_ap, mSortSet_ap, fMulY_ap, mTupRan_ap, mFz_ap, mGh_ap, fIsX_ap, mGhO_ap, ia_none_int, ia_none_bool, ia_none_list, ia_none_tuple, ia_none_str, ia_none_seq, ia_bool_int, ia_bool_bool, ia_bool_list, ia_bool_tuple, ia_bool_str, ia_bool_seq, ia_int_int, ia_int_bool, ia_int_list, ia_int_tuple, ia_int_str, ia_int_seq, ia_str_int, ia_str_bool, ia_str_list, ia_str_tuple, ia_str_str, ia_str_seq, ia_list_int, ia_list_bool, ia_list_list, ia_list_tuple, ia_list_str, ia_list_seq, ia_tuple_int, ia_tuple_bool, ia_tuple_list, ia_tuple_tuple, ia_tuple_str, ia_tuple_seq, mLst_ap, mTup_ap, mYes_ap, sizeLine_v, shaped_int, eqv_int, shaped_bool, eqv_bool, shaped_none, shaped_nilT, shaped_nilL, frz, frzAll, peek, res1, resAll, stoAll, argOf, argsOf, bors, wback, outAt, outsFrom, ownsStay, retv, wipeF, unwipe, sto, isNone, tyD, cY, cMul, cMod, cDiv, cPow, Cell.dat, b2n, frzS, frzL, fzV, atI, ixN, fMulL]
  | .int _, _ => simp [mVar_ap, mLit_ap, m2_ap, mB_ap, mAndT_ap, mOrT_ap, mNotT_ap, mAndV_ap, mOrV_ap, mNotV_ap, mIfE_ap, mNil_ap, mCons_ap, mDisp_ap, gSet_ap, gsNil_ap, gsCons_ap, gTupD_ap, mSet_ap, mAsg_ap, mPar_ap, mExpr_ap, mRet_ap, mRetN_ap, mNext_ap, mBreak_ap, mCont_ap, mSeq_ap, mIf_ap, iSeq_ap, iRan_ap, iRan2_ap, iEnm_ap, iZp_ap, mFor_ap, mWhile_ap, mCall_ap, mkD_ap, mLc_ap, fI_ap, fAdd_ap, fSub_ap, fMul_ap, fMod_ap, fDiv_ap, fPow_ap, fLt_ap, fLe_ap, fGt_ap, fGe_ap, fIsN_ap, fNotN_ap, fIsB_ap, fIx_ap, fAddX_ap, fSubX_ap, fMulX_ap, m1_ap, fNeg_ap, mB1_ap, fLen_ap, fAbs_ap, fInt_ap, fMin2_ap, fMax2_ap, fList_ap, fTuple_ap, fStr_ap, mMt_ap, mMtZ_ap, fAppend_ap, fInsert_ap, fExtend_ap, fPopAt_ap, mChain_ap, oNone_ap, oSome_ap, mSl_ap, gIx_ap, fInX_ap, fNotInX_ap, mIsi_ap, fEqX_ap, fNeX_ap, fAll_ap, fAny_ap, fSum_ap, fSorted_ap, fBest_ap, fIdx_ap, fRepr_ap, mPermA_ap, fBack_ap, gSplice_ap, mSortSet_ap, fMulY_ap, mTupRan_ap, mFz_ap, mGh_ap, fIsX_ap, mGhO_ap, ia_none_int, ia_none_bool, ia_none_list, ia_none_tuple, ia_none_str, ia_none_seq, ia_bool_int, ia_bool_bool, ia_bool_list, ia_bool_tuple, ia_bool_str, ia_bool_seq, ia_int_int, ia_int_bool, ia_int_list, ia_int_tuple, ia_int_str, ia_int_seq, ia_str_int, ia_str_bool, ia_str_list, ia_str_tuple, ia_str_str, ia_str_seq, ia_list_int, ia_list_bool, ia_list_list, ia_list_tuple, ia_list_str, ia_list_seq, ia_tuple_int, ia_tuple_bool, ia_tuple_list, ia_tuple_tuple, ia_tuple_str, ia_tuple_seq, mLst_ap, mTup_ap, mYes_ap, sizeLine_v, shaped_int, eqv_int, shaped_bool, eqv_bool, shaped_none, shaped_nilT, shaped_nilL, frz, frzAll, peek, res1, resAll, stoAll, argOf, argsOf, bors, wback, outAt, outsFrom, ownsStay, retv, wipeF, unwipe, sto, isNone, tyD, cY, cMul, cMod, cDiv, cPow, Cell.dat, b2n, frzS, frzL, fzV, atI, ixN, fMulL]
  | .str _, _ => simp [mVar_ap, mLit_ap, m2_ap, mB_ap, mAndT_ap, mOrT_ap, mNotT_ap, mAndV_ap, mOrV_ap, mNotV_ap, mIfE_ap, mNil_ap, mCons_ap, mDisp_ap, gSet_ap, gsNil_ap, gsCons_ap, gTupD_ap, mSet_ap, mAsg_ap, mPar_ap, mExpr_ap, mRet_ap, mRetN_ap, mNext_ap, mBreak_ap, mCont_ap, mSeq_ap, mIf_ap, iSeq_ap, iRan_ap, iRan2_ap, iEnm_ap, iZp_ap, mFor_ap, mWhile_ap, mCall_ap, mkD_ap, mLc_ap, fI_ap, fAdd_ap, fSub_ap, fMul_ap, fMod_ap, fDiv_ap, fPow_ap, fLt_ap, fLe_ap, fGt_ap, fGe_ap, fIsN_ap, fNotN_ap, fIsB_ap, fIx_ap, fAddX_ap, fSubX_ap, fMulX_ap, m1_ap, fNeg_ap, mB1_ap, fLen_ap, fAbs_ap, fInt_ap, fMin2_ap, fMax2_ap, fList_ap, fTuple_ap, fStr_ap, mMt_ap, mMtZ_ap, fAppend_ap, fInsert_ap, fExtend_ap, fPopAt_ap, mChain_ap, oNone_ap, oSome_ap, mSl_ap, gIx_ap, fInX_ap, fNotInX_ap, mIsi_ap, fEqX_ap, fNeX_ap, fAll_ap, fAny_ap, fSum_ap, fSorted_ap, fBest_ap, fIdx_ap, fRepr_ap, mPermA_ap, fBack_ap, gSplice_ap, mSortSet_ap, fMulY_ap, mTupRan_ap, mFz_ap, mGh_ap, fIsX_ap, mGhO_ap, ia_none_int, ia_none_bool, ia_none_list, ia_none_tuple, ia_none_str, ia_none_seq, ia_bool_int, ia_bool_bool, ia_bool_list, ia_bool_tuple, ia_bool_str, ia_bool_seq, ia_int_int, ia_int_bool, ia_int_list, ia_int_tuple, ia_int_str, ia_int_seq, ia_str_int, ia_str_bool, ia_str_list, ia_str_tuple, ia_str_str, ia_str_seq, ia_list_int, ia_list_bool, ia_list_list, ia_list_tuple, ia_list_str, ia_list_seq, ia_tuple_int, ia_tuple_bool, ia_tuple_list, ia_tuple_tuple, ia_tuple_str, ia_tuple_seq, mLst_ap, mTup_ap, mYes_ap, sizeLine_v, shaped_int, eqv_int, shaped_bool, eqv_bool, shaped_none, shaped_nilT, shaped_nilL, frz, frzAll, peek, res1, resAll, stoAll, argOf, argsOf, bors, wback, outAt, outsFrom, ownsStay, retv, wipeF, unwipe, sto, isNone, tyD, cY, cMul, cMod, cDiv, cPow, Cell.dat, b2n, frzS, frzL, fzV, atI, ixN, fMulL]
  | .list _, o => simp [Ok] at o
  | .tuple _, o => simp [Ok] at o
  | .dict _, o => simp [Ok] at o
theorem bent_S {Tk O Bn : Dm} {l b h : Nat} (hl : 3 ≤ l) (hl2 : l ≤ 900) (hb : 2 ≤ b) (hb2 : b ≤ 10 ^ 50) (hT : SpTake Tk) (hO : SpOdd O) (hB : SpBent l b h Bn) : SpBent l b (h + 1) (B_bent Tk O Bn) := by
  intro C s d hs hC o
  have hC' : C + 20 + 4 * ((h + 1 : Nat) : Int) ≤ 100000000 := hC
  have hs0 := hs
  obtain ⟨q, rfl⟩ := hs.own
  have main : ∀ e es, (d = .list (e :: es) ∨ d = .tuple (e :: es)) → Ev (B_bent Tk O Bn) [.own (.lst q), .dat d] fun v outs => ∃ x s', outs = [s', .dat d] ∧ Bx (C + 4 * (((h + 1 : Nat) : Int) + 1)) s' ∧ Ok (l + 1) (b + 1) (h + 1 + 2) x ∧ sz x ≤ 2 * sz d + 1000 ∧ (v = .dat x ∨ ∃ ds, v = .fre (.lst ds) ∧ x = .list ds) := by
    intro e es hd
    have o' : (e :: es).length ≤ l ∧ ∀ x ∈ e :: es, Ok l b h x := by
      rcases hd with rfl | rfl
      · simpa only [Ok] using o
      · simpa only [Ok] using o
    have hnz : ¬ ((es.length : Int) + 1 = 0) := by omega
    obtain ⟨r6, s1, a1, a2, a3, a4⟩ := hT _ 6 _ hs (by show _ ≤ (100000000 : Int); omega) (by omega) (by omega)
    obtain ⟨q1, rfl⟩ := a3.own
    by_cases h6 : r6 = 0
    · subst h6
      refine bent_odd hO hl hl2 hb hb2 hs hC o a3 ?_
      rcases hd with rfl | rfl
      · simp [mVar_ap, mLit_ap, m2_ap, mB_ap, mAndT_ap, mOrT_ap, mNotT_ap, mAndV_ap, mOrV_ap, mNotV_ap, mIfE_ap, mNil_ap, mCons_ap, mDisp_ap, gSet_ap, gsNil_ap, gsCons_ap, gTupD_ap, mSet_ap, mAsg_ap, mPar_ap, mExpr_ap, mRet_ap, mRetN_ap, mNext_ap, mBreak_ap, mCont_ap, mSeq_ap, mIf_ap, iSeq_ap, iRan_ap, iRan2_ap, iEnm_ap, iZp_ap, mFor_ap, mWhile_ap, mCall_ap, mkD_ap, mLc_ap, fI_ap, fAdd_ap, fSub_ap, fMul_ap, fMod_ap, fDiv_ap, fPow_ap, fLt_ap, fLe_ap, fGt_ap, fGe_ap, fIsN_ap, fNotN_ap, fIsB_ap, fIx_ap, fAddX_ap, fSubX_ap, fMulX_ap, m1_ap, fNeg_ap, mB1_ap, fLen_ap, fAbs_ap, fInt_ap, fMin2_ap, fMax2_ap, fList_ap, fTuple_ap, fStr_ap, mMt_ap, mMtZ_ap, fAppend_ap, fInsert_ap, fExtend_ap, fPopAt_ap, mChain_ap, oNone_ap, oSome_ap, mSl_ap, gIx_ap, fInX_ap, fNotInX_ap, mIsi_ap, fEqX_ap, fNeX_ap, fAll_ap, fAny_ap, fSum_ap, fSorted_ap, fBest_ap, fIdx_ap, fRepr_ap, mPermA_ap, fBack_ap, gSplice_ap, mSortSet_ap, fMulY_ap, mTupRan_ap, mFz_ap, mGh_ap, fIsX_ap, mGhO_ap, ia_none_int, ia_none_bool, ia_none_list, ia_none_tuple, ia_none_str, ia_none_seq, ia_bool_int, ia_bool_bool, ia_bool_list, ia_bool_tuple, ia_bool_str, ia_bool_seq, ia_int_int, ia_int_bool, ia_int_list, ia_int_tuple, ia_int_str, ia_int_seq, ia_str_int, ia_str_bool, ia_str_list, ia_str_tuple, ia_str_str, ia_str_seq, ia_list_int, ia_list_bool, ia_list_list, ia_list_tuple, ia_list_str, ia_list_seq, ia_tuple_int, ia_tuple_bool, ia_tuple_list, ia_tuple_tuple, ia_tuple_str, ia_tuple_seq, mLst_ap, mTup_ap, mYes_ap, sizeLine_v, shaped_int, eqv_int, shaped_bool, eqv_bool, shaped_none, shaped_nilT, shaped_nilL, frz, frzAll, peek, res1, resAll, stoAll, argOf, argsOf, bors, wback, outAt, outsFrom, ownsStay, retv, wipeF, unwipe, sto, isNone, tyD, cY, cMul, cMod, cDiv, cPow, Cell.dat, b2n, frzS, frzL, fzV, atI, ixN, fMulL, a4, hnz]
      · simp [mVar_ap, mLit_ap, m2_ap, mB_ap, mAndT_ap, mOrT_ap, mNotT_ap, mAndV_ap, mOrV_ap, mNotV_ap, mIfE_ap, mNil_ap, mCons_ap, mDisp_ap, gSet_ap, gsNil_ap, gsCons_ap, gTupD_ap, mSet_ap, mAsg_ap, mPar_ap, mExpr_ap, mRet_ap, mRetN_ap, mNext_ap, mBreak_ap, mCont_ap, mSeq_ap, mIf_ap, iSeq_ap, iRan_ap, iRan2_ap, iEnm_ap, iZp_ap, mFor_ap, mWhile_ap, mCall_ap, mkD_ap, mLc_ap, fI_ap, fAdd_ap, fSub_ap, fMul_ap, fMod_ap, fDiv_ap, fPow_ap, fLt_ap, fLe_ap, fGt_ap, fGe_ap, fIsN_ap, fNotN_ap, fIsB_ap, fIx_ap, fAddX_ap, fSubX_ap, fMulX_ap, m1_ap, fNeg_ap, mB1_ap, fLen_ap, fAbs_ap, fInt_ap, fMin2_ap, fMax2_ap, fList_ap, fTuple_ap, fStr_ap, mMt_ap, mMtZ_ap, fAppend_ap, fInsert_ap, fExtend_ap, fPopAt_ap, mChain_ap, oNone_ap, oSome_ap, mSl_ap, gIx_ap, fInX_ap, fNotInX_ap, mIsi_ap, fEqX_ap, fNeX_ap, fAll_ap, fAny_ap, fSum_ap, fSorted_ap, fBest_ap, fIdx_ap, fRepr_ap, mPermA_ap, fBack_ap, gSplice_ap, mSortSet_ap, fMulY_ap, mTupRan_ap, mFz_ap, mGh_ap, fIsX_ap, mGhO_ap, ia_none_int, ia_none_bool, ia_none_list, ia_none_tuple, ia_none_str, ia_none_seq, ia_bool_int, ia_bool_bool, ia_bool_list, ia_bool_tuple, ia_bool_str, ia_bool_seq, ia_int_int, ia_int_bool, ia_int_list, ia_int_tuple, ia_int_str, ia_int_seq, ia_str_int, ia_str_bool, ia_str_list, ia_str_tuple, ia_str_str, ia_str_seq, ia_list_int, ia_list_bool, ia_list_list, ia_list_tuple, ia_list_str, ia_list_seq, ia_tuple_int, ia_tuple_bool, ia_tuple_list, ia_tuple_tuple, ia_tuple_str, ia_tuple_seq, mLst_ap, mTup_ap, mYes_ap, sizeLine_v, shaped_int, eqv_int, shaped_bool, eqv_bool, shaped_none, shaped_nilT, shaped_nilL, frz, frzAll, peek, res1, resAll, stoAll, argOf, argsOf, bors, wback, outAt, outsFrom, ownsStay, retv, wipeF, unwipe, sto, isNone, tyD, cY, cMul, cMod, cDiv, cPow, Cell.dat, b2n, frzS, frzL, fzV, atI, ixN, fMulL, a4, hnz]
    · obtain ⟨at_, s2, b1, b2, b3, b4⟩ := hT _ ((e :: es).length : Nat) _ a3 (by show _ ≤ (100000000 : Int); omega) (by simp) (by omega)
      obtain ⟨q2, rfl⟩ := b3.own
      obtain ⟨so, s3, c1, c2, c3, c4⟩ := hT _ 8 _ b3 (by show _ ≤ (100000000 : Int); omega) (by omega) (by omega)
      obtain ⟨q3, rfl⟩ := c3.own
      have st1 : mIf (mOrT (mNotT (mB (mIsi ["list", "tuple"] (mVar 1)))) (mOrT (mB (m2 fEqX (mB1 fLen (mCons (mVar 1) mNil)) (mLit (.int 0)))) (mB (m2 fEqX (mCall Tk (mFz (mCons (mVar 0) (mCons (mLit (.int 6)) mNil)))) (mLit (.int 0)))))) (mRet (mCall O (mFz (mCons (mVar 0) (mCons (mVar 1) mNil))))) mNext [some (.own (.lst q)), some (.dat d), none, none, none] = some (.nx, [some (.own (.lst q1)), some (.dat d), none, none, none]) := by
        rcases hd with rfl | rfl
        · simp [mVar_ap, mLit_ap, m2_ap, mB_ap, mAndT_ap, mOrT_ap, mNotT_ap, mAndV_ap, mOrV_ap, mNotV_ap, mIfE_ap, mNil_ap, mCons_ap, mDisp_ap, gSet_ap, gsNil_ap, gsCons_ap, gTupD_ap, mSet_ap, mAsg_ap, mPar_ap, mExpr_ap, mRet_ap, mRetN_ap, mNext_ap, mBreak_ap, mCont_ap, mSeq_ap, mIf_ap, iSeq_ap, iRan_ap, iRan2_ap, iEnm_ap, iZp_ap, mFor_ap, mWhile_ap, mCall_ap, mkD_ap, mLc_ap, fI_ap, fAdd_ap, fSub_ap, fMul_ap, fMod_ap, fDiv_ap, fPow_ap, fLt_ap, fLe_ap, fGt_ap, fGe_ap, fIsN_ap, fNotN_ap, fIsB_ap, fIx_ap, fAddX_ap, fSubX_ap, fMulX_ap, m1_ap, fNeg_ap, mB1_ap, fLen_ap, fAbs_ap, fInt_ap, fMin2_ap, fMax2_ap, fList_ap, fTuple_ap, fStr_ap, mMt_ap, mMtZ_ap, fAppend_ap, fInsert_ap, fExtend_ap, fPopAt_ap, mChain_ap, oNone_ap, oSome_ap, mSl_ap, gIx_ap, fInX_ap, fNotInX_ap, mIsi_ap, fEqX_ap, fNeX_ap, fAll_ap, fAny_ap, fSum_ap, fSorted_ap, fBest_ap, fIdx_ap, fRepr_ap, mPermA_ap, fBack_ap, gSplice_ap, mSortSet_ap, fMulY_ap, mTupRan_ap, mFz_ap, mGh_ap, fIsX_ap, mGhO_ap, ia_none_int, ia_none_bool, ia_none_list, ia_none_tuple, ia_none_str, ia_none_seq, ia_bool_int, ia_bool_bool, ia_bool_list, ia_bool_tuple, ia_bool_str, ia_bool_seq, ia_int_int, ia_int_bool, ia_int_list, ia_int_tuple, ia_int_str, ia_int_seq, ia_str_int, ia_str_bool, ia_str_list, ia_str_tuple, ia_str_str, ia_str_seq, ia_list_int, ia_list_bool, ia_list_list, ia_list_tuple, ia_list_str, ia_list_seq, ia_tuple_int, ia_tuple_bool, ia_tuple_list, ia_tuple_tuple, ia_tuple_str, ia_tuple_seq, mLst_ap, mTup_ap, mYes_ap, sizeLine_v, shaped_int, eqv_int, shaped_bool, eqv_bool, shaped_none, shaped_nilT, shaped_nilL, frz, frzAll, peek, res1, resAll, stoAll, argOf, argsOf, bors, wback, outAt, outsFrom, ownsStay, retv, wipeF, unwipe, sto, isNone, tyD, cY, cMul, cMod, cDiv, cPow, Cell.dat, b2n, frzS, frzL, fzV, atI, ixN, fMulL, a4, hnz, h6]
        · simp [mVar_ap, mLit_ap, m2_ap, mB_ap, mAndT_ap, mOrT_ap, mNotT_ap, mAndV_ap, mOrV_ap, mNotV_ap, mIfE_ap, mNil_ap, mCons_ap, mDisp_ap, gSet_ap, gsNil_ap, gsCons_ap, gTupD_ap, mSet_ap, mAsg_ap, mPar_ap, mExpr_ap, mRet_ap, mRetN_ap, mNext_ap, mBreak_ap, mCont_ap, mSeq_ap, mIf_ap, iSeq_ap, iRan_ap, iRan2_ap, iEnm_ap, iZp_ap, mFor_ap, mWhile_ap, mCall_ap, mkD_ap, mLc_ap, fI_ap, fAdd_ap, fSub_ap, fMul_ap, fMod_ap, fDiv_ap, fPow_ap, fLt_ap, fLe_ap, fGt_ap, fGe_ap, fIsN_ap, fNotN_ap, fIsB_ap, fIx_ap, fAddX_ap, fSubX_ap, fMulX_ap, m1_ap, fNeg_ap, mB1_ap, fLen_ap, fAbs_ap, fInt_ap, fMin2_ap, fMax2_ap, fList_ap, fTuple_ap, fStr_ap, mMt_ap, mMtZ_ap, fAppend_ap, fInsert_ap, fExtend_ap, fPopAt_ap, mChain_ap, oNone_ap, oSome_ap, mSl_ap, gIx_ap, fInX_ap, fNotInX_ap, mIsi_ap, fEqX_ap, fNeX_ap, fAll_ap, fAny_ap, fSum_ap, fSorted_ap, fBest_ap, fIdx_ap, fRepr_ap, mPermA_ap, fBack_ap, gSplice_ap, mSortSet_ap, fMulY_ap, mTupRan_ap, mFz_ap, mGh_ap, fIsX_ap, mGhO_ap, ia_none_int, ia_none_bool, ia_none_list, ia_none_tuple, ia_none_str, ia_none_seq, ia_bool_int, ia_bool_bool, ia_bool_list, ia_bool_tuple, ia_bool_str, ia_bool_seq, ia_int_int, ia_int_bool, ia_int_list, ia_int_tuple, ia_int_str, ia_int_seq, ia_str_int, ia_str_bool, ia_str_list, ia_str_tuple, ia_str_str, ia_str_seq, ia_list_int, ia_list_bool, ia_list_list, ia_list_tuple, ia_list_str, ia_list_seq, ia_tuple_int, ia_tuple_bool, ia_tuple_list, ia_tuple_tuple, ia_tuple_str, ia_tuple_seq, mLst_ap, mTup_ap, mYes_ap, sizeLine_v, shaped_int, eqv_int, shaped_bool, eqv_bool, shaped_none, shaped_nilT, shaped_nilL, frz, frzAll, peek, res1, resAll, stoAll, argOf, argsOf, bors, wback, outAt, outsFrom, ownsStay, retv, wipeF, unwipe, sto, isNone, tyD, cY, cMul, cMod, cDiv, cPow, Cell.dat, b2n, frzS, frzL, fzV, atI, ixN, fMulL, a4, hnz, h6]
      generalize hds : e :: es = ds at *
      have st2 : mPar [2, 3, 4] (mCons (mCall Tk (mFz (mCons (mVar 0) (mCons (mB1 fLen (mCons (mVar 1) mNil)) mNil)))) (mCons (mB1 fList (mCons (mVar 1) mNil)) (mCons (mCall Tk (mFz (mCons (mVar 0) (mCons (mLit (.int 8)) mNil)))) mNil))) [some (.own (.lst q1)), some (.dat d), none, none, none] = some (.nx, [some (.own (.lst q3)), some (.dat d), some (.dat (.int at_)), some (.own (.lst ds)), some (.dat (.int so))]) := by
        rcases hd with rfl | rfl
        · simp [mVar_ap, mLit_ap, m2_ap, mB_ap, mAndT_ap, mOrT_ap, mNotT_ap, mAndV_ap, mOrV_ap, mNotV_ap, mIfE_ap, mNil_ap, mCons_ap, mDisp_ap, gSet_ap, gsNil_ap, gsCons_ap, gTupD_ap, mSet_ap, mAsg_ap, mPar_ap, mExpr_ap, mRet_ap, mRetN_ap, mNext_ap, mBreak_ap, mCont_ap, mSeq_ap, mIf_ap, iSeq_ap, iRan_ap, iRan2_ap, iEnm_ap, iZp_ap, mFor_ap, mWhile_ap, mCall_ap, mkD_ap, mLc_ap, fI_ap, fAdd_ap, fSub_ap, fMul_ap, fMod_ap, fDiv_ap, fPow_ap, fLt_ap, fLe_ap, fGt_ap, fGe_ap, fIsN_ap, fNotN_ap, fIsB_ap, fIx_ap, fAddX_ap, fSubX_ap, fMulX_ap, m1_ap, fNeg_ap, mB1_ap, fLen_ap, fAbs_ap, fInt_ap, fMin2_ap, fMax2_ap, fList_ap, fTuple_ap, fStr_ap, mMt_ap, mMtZ_ap, fAppend_ap, fInsert_ap, fExtend_ap, fPopAt_ap, mChain_ap, oNone_ap, oSome_ap, mSl_ap, gIx_ap, fInX_ap, fNotInX_ap, mIsi_ap, fEqX_ap, fNeX_ap, fAll_ap, fAny_ap, fSum_ap, fSorted_ap, fBest_ap, fIdx_ap, fRepr_ap, mPermA_ap, fBack_ap, gSplice_ap, mSortSet_ap, fMulY_ap, mTupRan_ap, mFz_ap, mGh_ap, fIsX_ap, mGhO_ap, ia_none_int, ia_none_bool, ia_none_list, ia_none_tuple, ia_none_str, ia_none_seq, ia_bool_int, ia_bool_bool, ia_bool_list, ia_bool_tuple, ia_bool_str, ia_bool_seq, ia_int_int, ia_int_bool, ia_int_list, ia_int_tuple, ia_int_str, ia_int_seq, ia_str_int, ia_str_bool, ia_str_list, ia_str_tuple, ia_str_str, ia_str_seq, ia_list_int, ia_list_bool, ia_list_list, ia_list_tuple, ia_list_str, ia_list_seq, ia_tuple_int, ia_tuple_bool, ia_tuple_list, ia_tuple_tuple, ia_tuple_str, ia_tuple_seq, mLst_ap, mTup_ap, mYes_ap, sizeLine_v, shaped_int, eqv_int, shaped_bool, eqv_bool, shaped_none, shaped_nilT, shaped_nilL, frz, frzAll, peek, res1, resAll, stoAll, argOf, argsOf, bors, wback, outAt, outsFrom, ownsStay, retv, wipeF, unwipe, sto, isNone, tyD, cY, cMul, cMod, cDiv, cPow, Cell.dat, b2n, frzS, frzL, fzV, atI, ixN, fMulL, b4, c4]
        · simp [mVar_ap, mLit_ap, m2_ap, mB_ap, mAndT_ap, mOrT_ap, mNotT_ap, mAndV_ap, mOrV_ap, mNotV_ap, mIfE_ap, mNil_ap, mCons_ap, mDisp_ap, gSet_ap, gsNil_ap, gsCons_ap, gTupD_ap, mSet_ap, mAsg_ap, mPar_ap, mExpr_ap, mRet_ap, mRetN_ap, mNext_ap, mBreak_ap, mCont_ap, mSeq_ap, mIf_ap, iSeq_ap, iRan_ap, iRan2_ap, iEnm_ap, iZp_ap, mFor_ap, mWhile_ap, mCall_ap, mkD_ap, mLc_ap, fI_ap, fAdd_ap, fSub_ap, fMul_ap, fMod_ap, fDiv_ap, fPow_ap, fLt_ap, fLe_ap, fGt_ap, fGe_ap, fIsN_ap, fNotN_ap, fIsB_ap, fIx_ap, fAddX_ap, fSubX_ap, fMulX_ap, m1_ap, fNeg_ap, mB1_ap, fLen_ap, fAbs_ap, fInt_ap, fMin2_ap, fMax2_ap, fList_ap, fTuple_ap, fStr_ap, mMt_ap, mMtZ_ap, fAppend_ap, fInsert_ap, fExtend_ap, fPopAt_ap, mChain_ap, oNone_ap, oSome_ap, mSl_ap, gIx_ap, fInX_ap, fNotInX_ap, mIsi_ap, fEqX_ap, fNeX_ap, fAll_ap, fAny_ap, fSum_ap, fSorted_ap, fBest_ap, fIdx_ap, fRepr_ap, mPermA_ap, fBack_ap, gSplice_ap, mSortSet_ap, fMulY_ap, mTupRan_ap, mFz_ap, mGh_ap, fIsX_ap, mGhO_ap, ia_none_int, ia_none_bool, ia_none_list, ia_none_tuple, ia_none_str, ia_none_seq, ia_bool_int, ia_bool_bool, ia_bool_list, ia_bool_tuple, ia_bool_str, ia_bool_seq, ia_int_int, ia_int_bool, ia_int_list, ia_int_tuple, ia_int_str, ia_int_seq, ia_str_int, ia_str_bool, ia_str_list, ia_str_tuple, ia_str_str, ia_str_seq, ia_list_int, ia_list_bool, ia_list_list, ia_list_tuple, ia_list_str, ia_list_seq, ia_tuple_int, ia_tuple_bool, ia_tuple_list, ia_tuple_tuple, ia_tuple_str, ia_tuple_seq, mLst_ap, mTup_ap, mYes_ap, sizeLine_v, shaped_int, eqv_int, shaped_bool, eqv_bool, shaped_none, shaped_nilT, shaped_nilL, frz, frzAll, peek, res1, resAll, stoAll, argOf, argsOf, bors, wback, outAt, outsFrom, ownsStay, retv, wipeF, unwipe, sto, isNone, tyD, cY, cMul, cMod, cDiv, cPow, Cell.dat, b2n, frzS, frzL, fzV, atI, ixN, fMulL, b4, c4]
      have hat : at_.toNat < ds.length := by omega
      have okm : ∀ x ∈ ds, Ok (l + 1) (b + 1) (h + 1 + 1) x := fun x m => (o'.2 x m).mono (by omega) (by omega) (by omega)
      have i1 : -9223372036854775808 ≤ at_ := by omega
      have i2 : at_ < 9223372036854775808 := by omega
      have i3 : ¬ (at_ < 0) := by omega
      have hix : atI ds at_ = some ds[at_.toNat] := by simp [atI, ixN, b1, b2, hat]
      -- the way out
      have out : ∀ (C2 : Int) (q5 ms : List PyData), Bx C2 (.own (.lst q5)) → C2 ≤ C + 4 * (((h + 1 : Nat) : Int) + 1) → ms.length ≤ l + 1 → (∀ x ∈ ms, Ok (l + 1) (b + 1) (h + 1 + 1) x) → szA ms ≤ 2 * szA ds + 1000 → Wp (mRet (mIfE (mB (mIsi ["list"] (mVar 1))) (mVar 3) (mB1 fTuple (mCons (mVar 3) mNil)))) [some (.own (.lst q5)), some (.dat d), some (.dat (.int at_)), some (.own (.lst ms)), some (.dat (.int so))] (fun fl fm1 => ∃ v r fm2 outs, fl = .rt v ∧ retv [.own (.lst q), .dat d] v fm1 = some (r, fm2) ∧ outsFrom [0, 1] fm2 0 [.own (.lst q), .dat d] = some outs ∧ ∃ x s', outs = [s', .dat d] ∧ Bx (C + 4 * (((h + 1 : Nat) : Int) + 1)) s' ∧ Ok (l + 1) (b + 1) (h + 1 + 2) x ∧ sz x ≤ 2 * sz d + 1000 ∧ (r = .dat x ∨ ∃ ds, r = .fre (.lst ds) ∧ x = .list ds)) := by
        intro C2 q5 ms m0 m1 m2 m3 m4
        rcases hd with rfl | rfl
        · exact wp_is (by simp [mVar_ap, mLit_ap, m2_ap, mB_ap, mAndT_ap, mOrT_ap, mNotT_ap, mAndV_ap, mOrV_ap, mNotV_ap, mIfE_ap, mNil_ap, mCons_ap, mDisp_ap, gSet_ap, gsNil_ap, gsCons_ap, gTupD_ap, mSet_ap, mAsg_ap, mPar_ap, mExpr_ap, mRet_ap, mRetN_ap, mNext_ap, mBreak_ap, mCont_ap, mSeq_ap, mIf_ap, iSeq_ap, iRan_ap, iRan2_ap, iEnm_ap, iZp_ap, mFor_ap, mWhile_ap, mCall_ap, mkD_ap, mLc_ap, fI_ap, fAdd_ap, fSub_ap, fMul_ap, fMod_ap, fDiv_ap, fPow_ap, fLt_ap, fLe_ap, fGt_ap, fGe_ap, fIsN_ap, fNotN_ap, fIsB_ap, fIx_ap, fAddX_ap, fSubX_ap, fMulX_ap, m1_ap, fNeg_ap, mB1_ap, fLen_ap, fAbs_ap, fInt_ap, fMin2_ap, fMax2_ap, fList_ap, fTuple_ap, fStr_ap, mMt_ap, mMtZ_ap, fAppend_ap, fInsert_ap, fExtend_ap, fPopAt_ap, mChain_ap, oNone_ap, oSome_ap, mSl_ap, gIx_ap, fInX_ap, fNotInX_ap, mIsi_ap, fEqX_ap, fNeX_ap, fAll_ap, fAny_ap, fSum_ap, fSorted_ap, fBest_ap, fIdx_ap, fRepr_ap, mPermA_ap, fBack_ap, gSplice_ap, mSortSet_ap, fMulY_ap, mTupRan_ap, mFz_ap, mGh_ap, fIsX_ap, mGhO_ap, ia_none_int, ia_none_bool, ia_none_list, ia_none_tuple, ia_none_str, ia_none_seq, ia_bool_int, ia_bool_bool, ia_bool_list, ia_bool_tuple, ia_bool_str, ia_bool_seq, ia_int_int, ia_int_bool, ia_int_list, ia_int_tuple, ia_int_str, ia_int_seq, ia_str_int, ia_str_bool, ia_str_list, ia_str_tuple, ia_str_str, ia_str_seq, ia_list_int, ia_list_bool, ia_list_list, ia_list_tuple, ia_list_str, ia_list_seq, ia_tuple_int, ia_tuple_bool, ia_tuple_list, ia_tuple_tuple, ia_tuple_str, ia_tuple_seq, mLst_ap, mTup_ap, mYes_ap, sizeLine_v, shaped_int, eqv_int, shaped_bool, eqv_bool, shaped_none, shaped_nilT, shaped_nilL, frz, frzAll, peek, res1, resAll, stoAll, argOf, argsOf, bors, wback, outAt, outsFrom, ownsStay, retv, wipeF, unwipe, sto, isNone, tyD, cY, cMul, cMod, cDiv, cPow, Cell.dat, b2n, frzS, frzL, fzV, atI, ixN, fMulL]; (try first | rfl | exact ⟨rfl, rfl⟩ | exact ⟨rfl, rfl, rfl⟩ | exact ⟨rfl, rfl, rfl, rfl⟩ | exact ⟨rfl, rfl, rfl, rfl, rfl⟩)) ⟨_, .fre (.lst ms), _, _, rfl, by simp [mVar_ap, mLit_ap, m2_ap, mB_ap, mAndT_ap, mOrT_ap, mNotT_ap, mAndV_ap, mOrV_ap, mNotV_ap, mIfE_ap, mNil_ap, mCons_ap, mDisp_ap, gSet_ap, gsNil_ap, gsCons_ap, gTupD_ap, mSet_ap, mAsg_ap, mPar_ap, mExpr_ap, mRet_ap, mRetN_ap, mNext_ap, mBreak_ap, mCont_ap, mSeq_ap, mIf_ap, iSeq_ap, iRan_ap, iRan2_ap, iEnm_ap, iZp_ap, mFor_ap, mWhile_ap, mCall_ap, mkD_ap, mLc_ap, fI_ap, fAdd_ap, fSub_ap, fMul_ap, fMod_ap, fDiv_ap, fPow_ap, fLt_ap, fLe_ap, fGt_ap, fGe_ap, fIsN_ap, fNotN_ap, fIsB_ap, fIx_ap, fAddX_ap, fSubX_ap, fMulX_ap, m1_ap, fNeg_ap, mB1_ap, fLen_ap, fAbs_ap, fInt_ap, fMin2_ap, fMax2_ap, fList_ap, fTuple_ap, fStr_ap, mMt_ap, mMtZ_ap, fAppend_ap, fInsert_ap, fExtend_ap, fPopAt_ap, mChain_ap, oNone_ap, oSome_ap, mSl_ap, gIx_ap, fInX_ap, fNotInX_ap, mIsi_ap, fEqX_ap, fNeX_ap, fAll_ap, fAny_ap, fSum_ap, fSorted_ap, fBest_ap, fIdx_ap, fRepr_ap, mPermA_ap, fBack_ap, gSplice_ap, mSortSet_ap, fMulY_ap, mTupRan_ap, mFz_ap, mGh_ap, fIsX_ap, mGhO_ap, ia_none_int, ia_none_bool, ia_none_list, ia_none_tuple, ia_none_str, ia_none_seq, ia_bool_int, ia_bool_bool, ia_bool_list, ia_bool_tuple, ia_bool_str, ia_bool_seq, ia_int_int, ia_int_bool, ia_int_list, ia_int_tuple, ia_int_str, ia_int_seq, ia_str_int, ia_str_bool, ia_str_list, ia_str_tuple, ia_str_str, ia_str_seq, ia_list_int, ia_list_bool, ia_list_list, ia_list_tuple, ia_list_str, ia_list_seq, ia_tuple_int, ia_tuple_bool, ia_tuple_list, ia_tuple_tuple, ia_tuple_str, ia_tuple_seq, mLst_ap, mTup_ap, mYes_ap, sizeLine_v, shaped_int, eqv_int, shaped_bool, eqv_bool, shaped_none, shaped_nilT, shaped_nilL, frz, frzAll, peek, res1, resAll, stoAll, argOf, argsOf, bors, wback, outAt, outsFrom, ownsStay, retv, wipeF, unwipe, sto, isNone, tyD, cY, cMul, cMod, cDiv, cPow, Cell.dat, b2n, frzS, frzL, fzV, atI, ixN, fMulL]; (try first | rfl | exact ⟨rfl, rfl⟩ | exact ⟨rfl, rfl, rfl⟩ | exact ⟨rfl, rfl, rfl, rfl⟩ | exact ⟨rfl, rfl, rfl, rfl, rfl⟩), by simp [mVar_ap, mLit_ap, m2_ap, mB_ap, mAndT_ap, mOrT_ap, mNotT_ap, mAndV_ap, mOrV_ap, mNotV_ap, mIfE_ap, mNil_ap, mCons_ap, mDisp_ap, gSet_ap, gsNil_ap, gsCons_ap, gTupD_ap, mSet_ap, mAsg_ap, mPar_ap, mExpr_ap, mRet_ap, mRetN_ap, mNext_ap, mBreak_ap, mCont_ap, mSeq_ap, mIf_ap, iSeq_ap, iRan_ap, iRan2_ap, iEnm_ap, iZp_ap, mFor_ap, mWhile_ap, mCall_ap, mkD_ap, mLc_ap, fI_ap, fAdd_ap, fSub_ap, fMul_ap, fMod_ap, fDiv_ap, fPow_ap, fLt_ap, fLe_ap, fGt_ap, fGe_ap, fIsN_ap, fNotN_ap, fIsB_ap, fIx_ap, fAddX_ap, fSubX_ap, fMulX_ap, m1_ap, fNeg_ap, mB1_ap, fLen_ap, fAbs_ap, fInt_ap, fMin2_ap, fMax2_ap, fList_ap, fTuple_ap, fStr_ap, mMt_ap, mMtZ_ap, fAppend_ap, fInsert_ap, fExtend_ap, fPopAt_ap, mChain_ap, oNone_ap, oSome_ap, mSl_ap, gIx_ap, fInX_ap, fNotInX_ap, mIsi_ap, fEqX_ap, fNeX_ap, fAll_ap, fAny_ap, fSum_ap, fSorted_ap, fBest_ap, fIdx_ap, fRepr_ap, mPermA_ap, fBack_ap, gSplice_ap, mSortSet_ap, fMulY_ap, mTupRan_ap, mFz_ap, mGh_ap, fIsX_ap, mGhO_ap, ia_none_int, ia_none_bool, ia_none_list, ia_none_tuple, ia_none_str, ia_none_seq, ia_bool_int, ia_bool_bool, ia_bool_list, ia_bool_tuple, ia_bool_str, ia_bool_seq, ia_int_int, ia_int_bool, ia_int_list, ia_int_tuple, ia_int_str, ia_int_seq, ia_str_int, ia_str_bool, ia_str_list, ia_str_tuple, ia_str_str, ia_str_seq, ia_list_int, ia_list_bool, ia_list_list, ia_list_tuple, ia_list_str, ia_list_seq, ia_tuple_int, ia_tuple_bool, ia_tuple_list, ia_tuple_tuple, ia_tuple_str, ia_tuple_seq, mLst_ap, mTup_ap, mYes_ap, sizeLine_v, shaped_int, eqv_int, shaped_bool, eqv_bool, shaped_none, shaped_nilT, shaped_nilL, frz, frzAll, peek, res1, resAll, stoAll, argOf, argsOf, bors, wback, outAt, outsFrom, ownsStay, retv, wipeF, unwipe, sto, isNone, tyD, cY, cMul, cMod, cDiv, cPow, Cell.dat, b2n, frzS, frzL, fzV, atI, ixN, fMulL]; (try first | rfl | exact ⟨rfl, rfl⟩ | exact ⟨rfl, rfl, rfl⟩ | exact ⟨rfl, rfl, rfl, rfl⟩ | exact ⟨rfl, rfl, rfl, rfl, rfl⟩), .list ms, _, rfl, m0.mono m1, ⟨m2, m3⟩, by simp only [sz]; omega, .inr ⟨_, rfl, rfl⟩⟩
        · exact wp_is (by simp [mVar_ap, mLit_ap, m2_ap, mB_ap, mAndT_ap, mOrT_ap, mNotT_ap, mAndV_ap, mOrV_ap, mNotV_ap, mIfE_ap, mNil_ap, mCons_ap, mDisp_ap, gSet_ap, gsNil_ap, gsCons_ap, gTupD_ap, mSet_ap, mAsg_ap, mPar_ap, mExpr_ap, mRet_ap, mRetN_ap, mNext_ap, mBreak_ap, mCont_ap, mSeq_ap, mIf_ap, iSeq_ap, iRan_ap, iRan2_ap, iEnm_ap, iZp_ap, mFor_ap, mWhile_ap, mCall_ap, mkD_ap, mLc_ap, fI_ap, fAdd_ap, fSub_ap, fMul_ap, fMod_ap, fDiv_ap, fPow_ap, fLt_ap, fLe_ap, fGt_ap, fGe_ap, fIsN_ap, fNotN_ap, fIsB_ap, fIx_ap, fAddX_ap, fSubX_ap, fMulX_ap, m1_ap, fNeg_ap, mB1_ap, fLen_ap, fAbs_ap, fInt_ap, fMin2_ap, fMax2_ap, fList_ap, fTuple_ap, fStr_ap, mMt_ap, mMtZ_ap, fAppend_ap, fInsert_ap, fExtend_ap, fPopAt_ap, mChain_ap, oNone_ap, oSome_ap, mSl_ap, gIx_ap, fInX_ap, fNotInX_ap, mIsi_ap, fEqX_ap, fNeX_ap, fAll_ap, fAny_ap, fSum_ap, fSorted_ap, fBest_ap, fIdx_ap, fRepr_ap, mPermA_ap, fBack_ap, gSplice_ap, mSortSet_ap, fMulY_ap, mTupRan_ap, mFz_ap, mGh_ap, fIsX_ap, mGhO_ap, ia_none_int, ia_none_bool, ia_none_list, ia_none_tuple, ia_none_str, ia_none_seq, ia_bool_int, ia_bool_bool, ia_bool_list, ia_bool_tuple, ia_bool_str, ia_bool_seq, ia_int_int, ia_int_bool, ia_int_list, ia_int_tuple, ia_int_str, ia_int_seq, ia_str_int, ia_str_bool, ia_str_list, ia_str_tuple, ia_str_str, ia_str_seq, ia_list_int, ia_list_bool, ia_list_list, ia_list_tuple, ia_list_str, ia_list_seq, ia_tuple_int, ia_tuple_bool, ia_tuple_list, ia_tuple_tuple, ia_tuple_str, ia_tuple_seq, mLst_ap, mTup_ap, mYes_ap, sizeLine_v, shaped_int, eqv_int, shaped_bool, eqv_bool, shaped_none, shaped_nilT, shaped_nilL, frz, frzAll, peek, res1, resAll, stoAll, argOf, argsOf, bors, wback, outAt, outsFrom, ownsStay, retv, wipeF, unwipe, sto, isNone, tyD, cY, cMul, cMod, cDiv, cPow, Cell.dat, b2n, frzS, frzL, fzV, atI, ixN, fMulL]; (try first | rfl | exact ⟨rfl, rfl⟩ | exact ⟨rfl, rfl, rfl⟩ | exact ⟨rfl, rfl, rfl, rfl⟩ | exact ⟨rfl, rfl, rfl, rfl, rfl⟩)) ⟨_, .dat (.tuple ms), _, _, rfl, by simp [mVar_ap, mLit_ap, m2_ap, mB_ap, mAndT_ap, mOrT_ap, mNotT_ap, mAndV_ap, mOrV_ap, mNotV_ap, mIfE_ap, mNil_ap, mCons_ap, mDisp_ap, gSet_ap, gsNil_ap, gsCons_ap, gTupD_ap, mSet_ap, mAsg_ap, mPar_ap, mExpr_ap, mRet_ap, mRetN_ap, mNext_ap, mBreak_ap, mCont_ap, mSeq_ap, mIf_ap, iSeq_ap, iRan_ap, iRan2_ap, iEnm_ap, iZp_ap, mFor_ap, mWhile_ap, mCall_ap, mkD_ap, mLc_ap, fI_ap, fAdd_ap, fSub_ap, fMul_ap, fMod_ap, fDiv_ap, fPow_ap, fLt_ap, fLe_ap, fGt_ap, fGe_ap, fIsN_ap, fNotN_ap, fIsB_ap, fIx_ap, fAddX_ap, fSubX_ap, fMulX_ap, m1_ap, fNeg_ap, mB1_ap, fLen_ap, fAbs_ap, fInt_ap, fMin2_ap, fMax2_ap, fList_ap, fTuple_ap, fStr_ap, mMt_ap, mMtZ_ap, fAppend_ap, fInsert_ap, fExtend_ap, fPopAt_ap, mChain_ap, oNone_ap, oSome_ap, mSl_ap, gIx_ap, fInX_ap, fNotInX_ap, mIsi_ap, fEqX_ap, fNeX_ap, fAll_ap, fAny_ap, fSum_ap, fSorted_ap, fBest_ap, fIdx_ap, fRepr_ap, mPermA_ap, fBack_ap, gSplice_ap, mSortSet_ap, fMulY_ap, mTupRan_ap, mFz_ap, mGh_ap, fIsX_ap, mGhO_ap, ia_none_int, ia_none_bool, ia_none_list, ia_none_tuple, ia_none_str, ia_none_seq, ia_bool_int, ia_bool_bool, ia_bool_list, ia_bool_tuple, ia_bool_str, ia_bool_seq, ia_int_int, ia_int_bool, ia_int_list, ia_int_tuple, ia_int_str, ia_int_seq, ia_str_int, ia_str_bool, ia_str_list, ia_str_tuple, ia_str_str, ia_str_seq, ia_list_int, ia_list_bool, ia_list_list, ia_list_tuple, ia_list_str, ia_list_seq, ia_tuple_int, ia_tuple_bool, ia_tuple_list, ia_tuple_tuple, ia_tuple_str, ia_tuple_seq, mLst_ap, mTup_ap, mYes_ap, sizeLine_v, shaped_int, eqv_int, shaped_bool, eqv_bool, shaped_none, shaped_nilT, shaped_nilL, frz, frzAll, peek, res1, resAll, stoAll, argOf, argsOf, bors, wback, outAt, outsFrom, ownsStay, retv, wipeF, unwipe, sto, isNone, tyD, cY, cMul, cMod, cDiv, cPow, Cell.dat, b2n, frzS, frzL, fzV, atI, ixN, fMulL]; (try first | rfl | exact ⟨rfl, rfl⟩ | exact ⟨rfl, rfl, rfl⟩ | exact ⟨rfl, rfl, rfl, rfl⟩ | exact ⟨rfl, rfl, rfl, rfl, rfl⟩), by simp [mVar_ap, mLit_ap, m2_ap, mB_ap, mAndT_ap, mOrT_ap, mNotT_ap, mAndV_ap, mOrV_ap, mNotV_ap, mIfE_ap, mNil_ap, mCons_ap, mDisp_ap, gSet_ap, gsNil_ap, gsCons_ap, gTupD_ap, mSet_ap, mAsg_ap, mPar_ap, mExpr_ap, mRet_ap, mRetN_ap, mNext_ap, mBreak_ap, mCont_ap, mSeq_ap, mIf_ap, iSeq_ap, iRan_ap, iRan2_ap, iEnm_ap, iZp_ap, mFor_ap, mWhile_ap, mCall_ap, mkD_ap, mLc_ap, fI_ap, fAdd_ap, fSub_ap, fMul_ap, fMod_ap, fDiv_ap, fPow_ap, fLt_ap, fLe_ap, fGt_ap, fGe_ap, fIsN_ap, fNotN_ap, fIsB_ap, fIx_ap, fAddX_ap, fSubX_ap, fMulX_ap, m1_ap, fNeg_ap, mB1_ap, fLen_ap, fAbs_ap, fInt_ap, fMin2_ap, fMax2_ap, fList_ap, fTuple_ap, fStr_ap, mMt_ap, mMtZ_ap, fAppend_ap, fInsert_ap, fExtend_ap, fPopAt_ap, mChain_ap, oNone_ap, oSome_ap, mSl_ap, gIx_ap, fInX_ap, fNotInX_ap, mIsi_ap, fEqX_ap, fNeX_ap, fAll_ap, fAny_ap, fSum_ap, fSorted_ap, fBest_ap, fIdx_ap, fRepr_ap, mPermA_ap, fBack_ap, gSplice_ap, mSortSet_ap, fMulY_ap, mTupRan_ap, mFz_ap, mGh_ap, fIsX_ap, mGhO_ap, ia_none_int, ia_none_bool, ia_none_list, ia_none_tuple, ia_none_str, ia_none_seq, ia_bool_int, ia_bool_bool, ia_bool_list, ia_bool_tuple, ia_bool_str, ia_bool_seq, ia_int_int, ia_int_bool, ia_int_list, ia_int_tuple, ia_int_str, ia_int_seq, ia_str_int, ia_str_bool, ia_str_list, ia_str_tuple, ia_str_str, ia_str_seq, ia_list_int, ia_list_bool, ia_list_list, ia_list_tuple, ia_list_str, ia_list_seq, ia_tuple_int, ia_tuple_bool, ia_tuple_list, ia_tuple_tuple, ia_tuple_str, ia_tuple_seq, mLst_ap, mTup_ap, mYes_ap, sizeLine_v, shaped_int, eqv_int, shaped_bool, eqv_bool, shaped_none, shaped_nilT, shaped_nilL, frz, frzAll, peek, res1, resAll, stoAll, argOf, argsOf, bors, wback, outAt, outsFrom, ownsStay, retv, wipeF, unwipe, sto, isNone, tyD, cY, cMul, cMod, cDiv, cPow, Cell.dat, b2n, frzS, frzL, fzV, atI, ixN, fMulL]; (try first | rfl | exact ⟨rfl, rfl⟩ | exact ⟨rfl, rfl, rfl⟩ | exact ⟨rfl, rfl, rfl, rfl⟩ | exact ⟨rfl, rfl, rfl, rfl, rfl⟩), .tuple ms, _, rfl, m0.mono m1, ⟨m2, m3⟩, by simp only [sz]; omega, .inl rfl⟩
      refine mkD_wp rfl (wp_nx st1 (wp_gh st2 ?_))
      by_cases k0 : so = 0
      · subst k0
        refine wp_nx (fm1 := [some (.own (.lst q3)), some (.dat d), some (.dat (.int at_)), some (.own (.lst (ds.eraseIdx at_.toNat))), some (.dat (.int 0))]) ?_ (out _ _ _ c3 (by simp; omega) (by rw [List.length_eraseIdx]; split <;> omega) (fun x m => okm x (List.mem_of_mem_eraseIdx m)) (by have := szA_erase ds at_.toNat; omega))
        simp [mVar_ap, mLit_ap, m2_ap, mB_ap, mAndT_ap, mOrT_ap, mNotT_ap, mAndV_ap, mOrV_ap, mNotV_ap, mIfE_ap, mNil_ap, mCons_ap, mDisp_ap, gSet_ap, gsNil_ap, gsCons_ap, gTupD_ap, mSet_ap, mAsg_ap, mPar_ap, mExpr_ap, mRet_ap, mRetN_ap, mNext_ap, mBreak_ap, mCont_ap, mSeq_ap, mIf_ap, iSeq_ap, iRan_ap, iRan2_ap, iEnm_ap, iZp_ap, mFor_ap, mWhile_ap, mCall_ap, mkD_ap, mLc_ap, fI_ap, fAdd_ap, fSub_ap, fMul_ap, fMod_ap, fDiv_ap, fPow_ap, fLt_ap, fLe_ap, fGt_ap, fGe_ap, fIsN_ap, fNotN_ap, fIsB_ap, fIx_ap, fAddX_ap, fSubX_ap, fMulX_ap, m1_ap, fNeg_ap, mB1_ap, fLen_ap, fAbs_ap, fInt_ap, fMin2_ap, fMax2_ap, fList_ap, fTuple_ap, fStr_ap, mMt_ap, mMtZ_ap, fAppend_ap, fInsert_ap, fExtend_ap, fPopAt_ap, mChain_ap, oNone_ap, oSome_ap, mSl_ap, gIx_ap, fInX_ap, fNotInX_ap, mIsi_ap, fEqX_ap, fNeX_ap, fAll_ap, fAny_ap, fSum_ap, fSorted_ap, fBest_ap, fIdx_ap, fRepr_ap, mPermA_ap, fBack_ap, gSplice_ap, mSortSet_ap, fMulY_ap, mTupRan_ap, mFz_ap, mGh_ap, fIsX_ap, mGhO_ap, ia_none_int, ia_none_bool, ia_none_list, ia_none_tuple, ia_none_str, ia_none_seq, ia_bool_int, ia_bool_bool, ia_bool_list, ia_bool_tuple, ia_bool_str, ia_bool_seq, ia_int_int, ia_int_bool, ia_int_list, ia_int_tuple, ia_int_str, ia_int_seq, ia_str_int, ia_str_bool, ia_str_list, ia_str_tuple, ia_str_str, ia_str_seq, ia_list_int, ia_list_bool, ia_list_list, ia_list_tuple, ia_list_str, ia_list_seq, ia_tuple_int, ia_tuple_bool, ia_tuple_list, ia_tuple_tuple, ia_tuple_str, ia_tuple_seq, mLst_ap, mTup_ap, mYes_ap, sizeLine_v, shaped_int, eqv_int, shaped_bool, eqv_bool, shaped_none, shaped_nilT, shaped_nilL, frz, frzAll, peek, res1, resAll, stoAll, argOf, argsOf, bors, wback, outAt, outsFrom, ownsStay, retv, wipeF, unwipe, sto, isNone, tyD, cY, cMul, cMod, cDiv, cPow, Cell.dat, b2n, frzS, frzL, fzV, fMulL, seqIndex?, i1, i2, i3, b1, b2, hat]
      · by_cases k1 : so = 1
        · subst k1
          have q7 : ds.length < 16777216 := by omega
          refine wp_nx (fm1 := [some (.own (.lst q3)), some (.dat d), some (.dat (.int at_)), some (.own (.lst (ds.take at_.toNat ++ [ds[at_.toNat]] ++ ds.drop at_.toNat))), some (.dat (.int 1))]) ?_ (out _ _ _ c3 (by simp; omega) (by simp; omega) (fun x m => ?_) ?_)
          · simp [mVar_ap, mLit_ap, m2_ap, mB_ap, mAndT_ap, mOrT_ap, mNotT_ap, mAndV_ap, mOrV_ap, mNotV_ap, mIfE_ap, mNil_ap, mCons_ap, mDisp_ap, gSet_ap, gsNil_ap, gsCons_ap, gTupD_ap, mSet_ap, mAsg_ap, mPar_ap, mExpr_ap, mRet_ap, mRetN_ap, mNext_ap, mBreak_ap, mCont_ap, mSeq_ap, mIf_ap, iSeq_ap, iRan_ap, iRan2_ap, iEnm_ap, iZp_ap, mFor_ap, mWhile_ap, mCall_ap, mkD_ap, mLc_ap, fI_ap, fAdd_ap, fSub_ap, fMul_ap, fMod_ap, fDiv_ap, fPow_ap, fLt_ap, fLe_ap, fGt_ap, fGe_ap, fIsN_ap, fNotN_ap, fIsB_ap, fIx_ap, fAddX_ap, fSubX_ap, fMulX_ap, m1_ap, fNeg_ap, mB1_ap, fLen_ap, fAbs_ap, fInt_ap, fMin2_ap, fMax2_ap, fList_ap, fTuple_ap, fStr_ap, mMt_ap, mMtZ_ap, fAppend_ap, fInsert_ap, fExtend_ap, fPopAt_ap, mChain_ap, oNone_ap, oSome_ap, mSl_ap, gIx_ap, fInX_ap, fNotInX_ap, mIsi_ap, fEqX_ap, fNeX_ap, fAll_ap, fAny_ap, fSum_ap, fSorted_ap, fBest_ap, fIdx_ap, fRepr_ap, mPermA_ap, fBack_ap, gSplice_ap, mSortSet_ap, fMulY_ap, mTupRan_ap, mFz_ap, mGh_ap, fIsX_ap, mGhO_ap, ia_none_int, ia_none_bool, ia_none_list, ia_none_tuple, ia_none_str, ia_none_seq, ia_bool_int, ia_bool_bool, ia_bool_list, ia_bool_tuple, ia_bool_str, ia_bool_seq, ia_int_int, ia_int_bool, ia_int_list, ia_int_tuple, ia_int_str, ia_int_seq, ia_str_int, ia_str_bool, ia_str_list, ia_str_tuple, ia_str_str, ia_str_seq, ia_list_int, ia_list_bool, ia_list_list, ia_list_tuple, ia_list_str, ia_list_seq, ia_tuple_int, ia_tuple_bool, ia_tuple_list, ia_tuple_tuple, ia_tuple_str, ia_tuple_seq, mLst_ap, mTup_ap, mYes_ap, sizeLine_v, shaped_int, eqv_int, shaped_bool, eqv_bool, shaped_none, shaped_nilT, shaped_nilL, frz, frzAll, peek, res1, resAll, stoAll, argOf, argsOf, bors, wback, outAt, outsFrom, ownsStay, retv, wipeF, unwipe, sto, isNone, tyD, cY, cMul, cMod, cDiv, cPow, Cell.dat, b2n, frzS, frzL, fzV, fMulL, hix, b1, i2, q7]
          · simp only [List.mem_append, List.mem_singleton] at m
            rcases m with (m | m) | m
            · exact okm x (List.mem_of_mem_take m)
            · subst m; exact okm _ (List.getElem_mem hat)
            · exact okm x (List.mem_of_mem_drop m)
          · rw [szA_app, szA_app, szA_cons, szA_nil]
            have q5 := szA_app (ds.take at_.toNat) (ds.drop at_.toNat)
            rw [List.take_append_drop] at q5
            have q6 := szA_mem (List.getElem_mem hat)
            omega
        · by_cases k2 : so = 2
          · subst k2
            have q7 : ds.length + (Rf.cutD ds (some at_) (some (at_ + 2))).length ≤ 16777216 := by have := cut_len ds (some at_) (some (at_ + 2)); omega
            have q8 : at_ ≤ at_ + 2 := by omega
            have q9 := cut_two (ds := ds) b1 hat
            have q10 : (at_ + 2).toNat = at_.toNat + 2 := by omega
            refine wp_nx (fm1 := [some (.own (.lst q3)), some (.dat d), some (.dat (.int at_)), some (.own (.lst (ds.take at_.toNat ++ (Rf.cutD ds (some at_) (some (at_ + 2))).reverse ++ ds.drop (at_ + 2).toNat))), some (.dat (.int 2))]) ?_ (out _ _ _ c3 (by simp; omega) ?_ (fun x m => ?_) ?_)
            · simp [mVar_ap, mLit_ap, m2_ap, mB_ap, mAndT_ap, mOrT_ap, mNotT_ap, mAndV_ap, mOrV_ap, mNotV_ap, mIfE_ap, mNil_ap, mCons_ap, mDisp_ap, gSet_ap, gsNil_ap, gsCons_ap, gTupD_ap, mSet_ap, mAsg_ap, mPar_ap, mExpr_ap, mRet_ap, mRetN_ap, mNext_ap, mBreak_ap, mCont_ap, mSeq_ap, mIf_ap, iSeq_ap, iRan_ap, iRan2_ap, iEnm_ap, iZp_ap, mFor_ap, mWhile_ap, mCall_ap, mkD_ap, mLc_ap, fI_ap, fAdd_ap, fSub_ap, fMul_ap, fMod_ap, fDiv_ap, fPow_ap, fLt_ap, fLe_ap, fGt_ap, fGe_ap, fIsN_ap, fNotN_ap, fIsB_ap, fIx_ap, fAddX_ap, fSubX_ap, fMulX_ap, m1_ap, fNeg_ap, mB1_ap, fLen_ap, fAbs_ap, fInt_ap, fMin2_ap, fMax2_ap, fList_ap, fTuple_ap, fStr_ap, mMt_ap, mMtZ_ap, fAppend_ap, fInsert_ap, fExtend_ap, fPopAt_ap, mChain_ap, oNone_ap, oSome_ap, mSl_ap, gIx_ap, fInX_ap, fNotInX_ap, mIsi_ap, fEqX_ap, fNeX_ap, fAll_ap, fAny_ap, fSum_ap, fSorted_ap, fBest_ap, fIdx_ap, fRepr_ap, mPermA_ap, fBack_ap, gSplice_ap, mSortSet_ap, fMulY_ap, mTupRan_ap, mFz_ap, mGh_ap, fIsX_ap, mGhO_ap, ia_none_int, ia_none_bool, ia_none_list, ia_none_tuple, ia_none_str, ia_none_seq, ia_bool_int, ia_bool_bool, ia_bool_list, ia_bool_tuple, ia_bool_str, ia_bool_seq, ia_int_int, ia_int_bool, ia_int_list, ia_int_tuple, ia_int_str, ia_int_seq, ia_str_int, ia_str_bool, ia_str_list, ia_str_tuple, ia_str_str, ia_str_seq, ia_list_int, ia_list_bool, ia_list_list, ia_list_tuple, ia_list_str, ia_list_seq, ia_tuple_int, ia_tuple_bool, ia_tuple_list, ia_tuple_tuple, ia_tuple_str, ia_tuple_seq, mLst_ap, mTup_ap, mYes_ap, sizeLine_v, shaped_int, eqv_int, shaped_bool, eqv_bool, shaped_none, shaped_nilT, shaped_nilL, frz, frzAll, peek, res1, resAll, stoAll, argOf, argsOf, bors, wback, outAt, outsFrom, ownsStay, retv, wipeF, unwipe, sto, isNone, tyD, cY, cMul, cMod, cDiv, cPow, Cell.dat, b2n, frzS, frzL, fzV, fMulL, b1, q8, q7]
            · simp only [List.length_append, List.length_take, List.length_reverse, List.length_drop, q10]; omega
            · simp only [List.mem_append, List.mem_reverse] at m
              rcases m with (m | m) | m
              · exact okm x (List.mem_of_mem_take m)
              · exact okm _ (cut_mem m)
              · exact okm x (List.mem_of_mem_drop m)
            · rw [szA_app, szA_app, szA_rev]
              have q5 := szA_app (ds.take at_.toNat) (ds.drop at_.toNat)
              rw [List.take_append_drop] at q5
              have q6 := szA_drop 2 (ds.drop at_.toNat)
              rw [List.drop_drop] at q6
              have q11 := cut_sz ds (some at_) (some (at_ + 2))
              rw [q10]
              omega
          · obtain ⟨v, _, d1, x, s4, rfl, d2, d3, d4, d5⟩ := hB _ _ ds[at_.toNat] c3 (by show _ ≤ (100000000 : Int); omega) (o'.2 _ (List.getElem_mem hat))
            obtain ⟨q4, rfl⟩ := d2.own
            have hixn : ixN ds.length at_ = some at_.toNat := by simp [ixN, b1, b2]
            refine wp_nx (fm1 := [some (.own (.lst q4)), some (.dat d), some (.dat (.int at_)), some (.own (.lst (ds.set at_.toNat x))), some (.dat (.int so))]) ?_ (out _ _ _ d2 (by simp; omega) (by simp; omega) (fun y m => ?_) ?_)
            · rcases d5 with rfl | ⟨zs, rfl, rfl⟩
              · simp [mVar_ap, mLit_ap, m2_ap, mB_ap, mAndT_ap, mOrT_ap, mNotT_ap, mAndV_ap, mOrV_ap, mNotV_ap, mIfE_ap, mNil_ap, mCons_ap, mDisp_ap, gSet_ap, gsNil_ap, gsCons_ap, gTupD_ap, mSet_ap, mAsg_ap, mPar_ap, mExpr_ap, mRet_ap, mRetN_ap, mNext_ap, mBreak_ap, mCont_ap, mSeq_ap, mIf_ap, iSeq_ap, iRan_ap, iRan2_ap, iEnm_ap, iZp_ap, mFor_ap, mWhile_ap, mCall_ap, mkD_ap, mLc_ap, fI_ap, fAdd_ap, fSub_ap, fMul_ap, fMod_ap, fDiv_ap, fPow_ap, fLt_ap, fLe_ap, fGt_ap, fGe_ap, fIsN_ap, fNotN_ap, fIsB_ap, fIx_ap, fAddX_ap, fSubX_ap, fMulX_ap, m1_ap, fNeg_ap, mB1_ap, fLen_ap, fAbs_ap, fInt_ap, fMin2_ap, fMax2_ap, fList_ap, fTuple_ap, fStr_ap, mMt_ap, mMtZ_ap, fAppend_ap, fInsert_ap, fExtend_ap, fPopAt_ap, mChain_ap, oNone_ap, oSome_ap, mSl_ap, gIx_ap, fInX_ap, fNotInX_ap, mIsi_ap, fEqX_ap, fNeX_ap, fAll_ap, fAny_ap, fSum_ap, fSorted_ap, fBest_ap, fIdx_ap, fRepr_ap, mPermA_ap, fBack_ap, gSplice_ap, mSortSet_ap, fMulY_ap, mTupRan_ap, mFz_ap, mGh_ap, fIsX_ap, mGhO_ap, ia_none_int, ia_none_bool, ia_none_list, ia_none_tuple, ia_none_str, ia_none_seq, ia_bool_int, ia_bool_bool, ia_bool_list, ia_bool_tuple, ia_bool_str, ia_bool_seq, ia_int_int, ia_int_bool, ia_int_list, ia_int_tuple, ia_int_str, ia_int_seq, ia_str_int, ia_str_bool, ia_str_list, ia_str_tuple, ia_str_str, ia_str_seq, ia_list_int, ia_list_bool, ia_list_list, ia_list_tuple, ia_list_str, ia_list_seq, ia_tuple_int, ia_tuple_bool, ia_tuple_list, ia_tuple_tuple, ia_tuple_str, ia_tuple_seq, mLst_ap, mTup_ap, mYes_ap, sizeLine_v, shaped_int, eqv_int, shaped_bool, eqv_bool, shaped_none, shaped_nilT, shaped_nilL, frz, frzAll, peek, res1, resAll, stoAll, argOf, argsOf, bors, wback, outAt, outsFrom, ownsStay, retv, wipeF, unwipe, sto, isNone, tyD, cY, cMul, cMod, cDiv, cPow, Cell.dat, b2n, frzS, frzL, fzV, fMulL, hix, d1, k0, k1, k2, hixn]
              · simp [mVar_ap, mLit_ap, m2_ap, mB_ap, mAndT_ap, mOrT_ap, mNotT_ap, mAndV_ap, mOrV_ap, mNotV_ap, mIfE_ap, mNil_ap, mCons_ap, mDisp_ap, gSet_ap, gsNil_ap, gsCons_ap, gTupD_ap, mSet_ap, mAsg_ap, mPar_ap, mExpr_ap, mRet_ap, mRetN_ap, mNext_ap, mBreak_ap, mCont_ap, mSeq_ap, mIf_ap, iSeq_ap, iRan_ap, iRan2_ap, iEnm_ap, iZp_ap, mFor_ap, mWhile_ap, mCall_ap, mkD_ap, mLc_ap, fI_ap, fAdd_ap, fSub_ap, fMul_ap, fMod_ap, fDiv_ap, fPow_ap, fLt_ap, fLe_ap, fGt_ap, fGe_ap, fIsN_ap, fNotN_ap, fIsB_ap, fIx_ap, fAddX_ap, fSubX_ap, fMulX_ap, m1_ap, fNeg_ap, mB1_ap, fLen_ap, fAbs_ap, fInt_ap, fMin2_ap, fMax2_ap, fList_ap, fTuple_ap, fStr_ap, mMt_ap, mMtZ_ap, fAppend_ap, fInsert_ap, fExtend_ap, fPopAt_ap, mChain_ap, oNone_ap, oSome_ap, mSl_ap, gIx_ap, fInX_ap, fNotInX_ap, mIsi_ap, fEqX_ap, fNeX_ap, fAll_ap, fAny_ap, fSum_ap, fSorted_ap, fBest_ap, fIdx_ap, fRepr_ap, mPermA_ap, fBack_ap, gSplice_ap, mSortSet_ap, fMulY_ap, mTupRan_ap, mFz_ap, mGh_ap, fIsX_ap, mGhO_ap, ia_none_int, ia_none_bool, ia_none_list, ia_none_tuple, ia_none_str, ia_none_seq, ia_bool_int, ia_bool_bool, ia_bool_list, ia_bool_tuple, ia_bool_str, ia_bool_seq, ia_int_int, ia_int_bool, ia_int_list, ia_int_tuple, ia_int_str, ia_int_seq, ia_str_int, ia_str_bool, ia_str_list, ia_str_tuple, ia_str_str, ia_str_seq, ia_list_int, ia_list_bool, ia_list_list, ia_list_tuple, ia_list_str, ia_list_seq, ia_tuple_int, ia_tuple_bool, ia_tuple_list, ia_tuple_tuple, ia_tuple_str, ia_tuple_seq, mLst_ap, mTup_ap, mYes_ap, sizeLine_v, shaped_int, eqv_int, shaped_bool, eqv_bool, shaped_none, shaped_nilT, shaped_nilL, frz, frzAll, peek, res1, resAll, stoAll, argOf, argsOf, bors, wback, outAt, outsFrom, ownsStay, retv, wipeF, unwipe, sto, isNone, tyD, cY, cMul, cMod, cDiv, cPow, Cell.dat, b2n, frzS, frzL, fzV, fMulL, hix, d1, k0, k1, k2, hixn]
            · rcases List.mem_or_eq_of_mem_set m with m | m
              · exact okm y m
              · subst m; exact d3.mono (by omega) (by omega) (by omega)
            · have := szA_set x ds at_.toNat ds[at_.toNat] (by simp [hat])
              have := szA_mem (List.getElem_mem hat)
              omega
  match d, o, main with
  | .none, o, _ => exact bent_odd hO hl hl2 hb hb2 hs hC o (hs.mono (by omega)) (by simp [mVar_ap, mLit_ap, m2_ap, mB_ap, mAndT_ap, mOrT_ap, mNotT_ap, mAndV_ap, mOrV_ap, mNotV_ap, mIfE_ap, mNil_ap, mCons_ap, mDisp_ap, gSet_ap, gsNil_ap, gsCons_ap, gTupD_ap, mSet_ap, mAsg_ap, mPar_ap, mExpr_ap, mRet_ap, mRetN_ap, mNext_ap, mBreak_ap, mCont_ap, mSeq_ap, mIf_ap, iSeq_ap, iRan_ap, iRan2_ap, iEnm_ap, iZp_ap, mFor_ap, mWhile_ap, mCall_ap, mkD_ap, mLc_ap, fI_ap, fAdd_ap, fSub_ap, fMul_ap, fMod_ap, fDiv_ap, fPow_ap, fLt_ap, fLe_ap, fGt_ap, fGe_ap, fIsN_ap, fNotN_ap, fIsB_ap, fIx_ap, fAddX_ap, fSubX_ap, fMulX_ap, m1_ap, fNeg_ap, mB1_ap, fLen_ap, fAbs_ap, fInt_ap, fMin2_ap, fMax2_ap, fList_ap, fTuple_ap, fStr_ap, mMt_ap, mMtZ_ap, fAppend_ap, fInsert_ap, fExtend_ap, fPopAt_ap, mChain_ap, oNone_ap, oSome_ap, mSl_ap, gIx_ap, fInX_ap, fNotInX_ap, mIsi_ap, fEqX_ap, fNeX_ap, fAll_ap, fAny_ap, fSum_ap, fSorted_ap, fBest_ap, fIdx_ap, fRepr_ap, mPermA_ap, fBack_ap, gSplice_ap, mSortSet_ap, fMulY_ap, mTupRan_ap, mFz_ap, mGh_ap, fIsX_ap, mGhO_ap, ia_none_int, ia_none_bool, ia_none_list, ia_none_tuple, ia_none_str, ia_none_seq, ia_bool_int, ia_bool_bool, ia_bool_list, ia_bool_tuple, ia_bool_str, ia_bool_seq, ia_int_int, ia_int_bool, ia_int_list, ia_int_tuple, ia_int_str, ia_int_seq, ia_str_int, ia_str_bool, ia_str_list, ia_str_tuple, ia_str_str, ia_str_seq, ia_list_int, ia_list_bool, ia_list_list, ia_list_tuple, ia_list_str, ia_list_seq, ia_tuple_int, ia_tuple_bool, ia_tuple_list, ia_tuple_tuple, ia_tuple_str, ia_tuple_seq, mLst_ap, mTup_ap, mYes_ap, sizeLine_v, shaped_int, eqv_int, shaped_bool, eqv_bool, shaped_none, shaped_nilT, shaped_nilL, frz, frzAll, peek, res1, resAll, stoAll, argOf, argsOf, bors, wback, outAt, outsFrom, ownsStay, retv, wipeF, unwipe, sto, isNone, tyD, cY, cMul, cMod, cDiv, cPow, Cell.dat, b2n, frzS, frzL, fzV, atI, ixN, fMulL])
  | .bool _, o, _ => exact bent_odd hO hl hl2 hb hb2 hs hC o (hs.mono (by omega)) (by simp [mVar_ap, mLit_ap, m2_ap, mB_ap, mAndT_ap, mOrT_ap, mNotT_ap, mAndV_ap, mOrV_ap, mNotV_ap, mIfE_ap, mNil_ap, mCons_ap, mDisp_ap, gSet_ap, gsNil_ap, gsCons_ap, gTupD_ap, mSet_ap, mAsg_ap, mPar_ap, mExpr_ap, mRet_ap, mRetN_ap, mNext_ap, mBreak_ap, mCont_ap, mSeq_ap, mIf_ap, iSeq_ap, iRan_ap, iRan2_ap, iEnm_ap, iZp_ap, mFor_ap, mWhile_ap, mCall_ap, mkD_ap, mLc_ap, fI_ap, fAdd_ap, fSub_ap, fMul_ap, fMod_ap, fDiv_ap, fPow_ap, fLt_ap, fLe_ap, fGt_ap, fGe_ap, fIsN_ap, fNotN_ap, fIsB_ap, fIx_ap, fAddX_ap, fSubX_ap, fMulX_ap, m1_ap, fNeg_ap, mB1_ap, fLen_ap, fAbs_ap, fInt_ap, fMin2_ap, fMax2_ap, fList_ap, fTuple_ap, fStr_ap, mMt_ap, mMtZ_ap, fAppend_ap, fInsert_ap, fExtend_ap, fPopAt_ap, mChain_ap, oNone_ap, oSome_ap, mSl_ap, gIx_ap, fInX_ap, fNotInX_ap, mIsi_ap, fEqX_ap, fNeX_ap, fAll_ap, fAny_ap, fSum_ap, fSorted_ap, fBest_ap, fIdx_ap, fRepr_ap, mPermA_ap, fBack_ap, gSplice_ap, mSortSet_ap, fMulY_ap, mTupRan_ap, mFz_ap, mGh_ap, fIsX_ap, mGhO_ap, ia_none_int, ia_none_bool, ia_none_list, ia_none_tuple, ia_none_str, ia_none_seq, ia_bool_int, ia_bool_bool, ia_bool_list, ia_bool_tuple, ia_bool_str, ia_bool_seq, ia_int_int, ia_int_bool, ia_int_list, ia_int_tuple, ia_int_str, ia_int_seq, ia_str_int, ia_str_bool, ia_str_list, ia_str_tuple, ia_str_str, ia_str_seq, ia_list_int, ia_list_bool, ia_list_list, ia_list_tuple, ia_list_str, ia_list_seq, ia_tuple_int, ia_tuple_bool, ia_tuple_list, ia_tuple_tuple, ia_tuple_str, ia_tuple_seq, mLst_ap, mTup_ap, mYes_ap, sizeLine_v, shaped_int, eqv_int, shaped_bool, eqv_bool, shaped_none, shaped_nilT, shaped_nilL, frz, frzAll, peek, res1, resAll, stoAll, argOf, argsOf, bors, wback, outAt, outsFrom, ownsStay, retv, wipeF, unwipe, sto, isNone, tyD, cY, cMul, cMod, cDiv, cPow, Cell.dat, b2n, frzS, frzL, fzV, atI, ixN, fMulL])
  | .int _, o, _ => exact bent_odd hO hl hl2 hb hb2 hs hC o (hs.mono (by omega)) (by simp [mVar_ap, mLit_ap, m2_ap, mB_ap, mAndT_ap, mOrT_ap, mNotT_ap, mAndV_ap, mOrV_ap, mNotV_ap, mIfE_ap, mNil_ap, mCons_ap, mDisp_ap, gSet_ap, gsNil_ap, gsCons_ap, gTupD_ap, mSet_ap, mAsg_ap, mPar_ap, mExpr_ap, mRet_ap, mRetN_ap, mNext_ap, mBreak_ap, mCont_ap, mSeq_ap, mIf_ap, iSeq_ap, iRan_ap, iRan2_ap, iEnm_ap, iZp_ap, mFor_ap, mWhile_ap, mCall_ap, mkD_ap, mLc_ap, fI_ap, fAdd_ap, fSub_ap, fMul_ap, fMod_ap, fDiv_ap, fPow_ap, fLt_ap, fLe_ap, fGt_ap, fGe_ap, fIsN_ap, fNotN_ap, fIsB_ap, fIx_ap, fAddX_ap, fSubX_ap, fMulX_ap, m1_ap, fNeg_ap, mB1_ap, fLen_ap, fAbs_ap, fInt_ap, fMin2_ap, fMax2_ap, fList_ap, fTuple_ap, fStr_ap, mMt_ap, mMtZ_ap, fAppend_ap, fInsert_ap, fExtend_ap, fPopAt_ap, mChain_ap, oNone_ap, oSome_ap, mSl_ap, gIx_ap, fInX_ap, fNotInX_ap, mIsi_ap, fEqX_ap, fNeX_ap, fAll_ap, fAny_ap, fSum_ap, fSorted_ap, fBest_ap, fIdx_ap, fRepr_ap, mPermA_ap, fBack_ap, gSplice_ap, mSortSet_ap, fMulY_ap, mTupRan_ap, mFz_ap, mGh_ap, fIsX_ap, mGhO_ap, ia_none_int, ia_none_bool, ia_none_list, ia_none_tuple, ia_none_str, ia_none_seq, ia_bool_int, ia_bool_bool, ia_bool_list, ia_bool_tuple, ia_bool_str, ia_bool_seq, ia_int_int, ia_int_bool, ia_int_list, ia_int_tuple, ia_int_str, ia_int_seq, ia_str_int, ia_str_bool, ia_str_list, ia_str_tuple, ia_str_str, ia_str_seq, ia_list_int, ia_list_bool, ia_list_list, ia_list_tuple, ia_list_str, ia_list_seq, ia_tuple_int, ia_tuple_bool, ia_tuple_list, ia_tuple_tuple, ia_tuple_str, ia_tuple_seq, mLst_ap, mTup_ap, mYes_ap, sizeLine_v, shaped_int, eqv_int, shaped_bool, eqv_bool, shaped_none, shaped_nilT, shaped_nilL, frz, frzAll, peek, res1, resAll, stoAll, argOf, argsOf, bors, wback, outAt, outsFrom, ownsStay, retv, wipeF, unwipe, sto, isNone, tyD, cY, cMul, cMod, cDiv, cPow, Cell.dat, b2n, frzS, frzL, fzV, atI, ixN, fMulL])
  | .str _, o, _ => exact bent_odd hO hl hl2 hb hb2 hs hC o (hs.mono (by omega)) (by simp [mVar_ap, mLit_ap, m2_ap, mB_ap, mAndT_ap, mOrT_ap, mNotT_ap, mAndV_ap, mOrV_ap, mNotV_ap, mIfE_ap, mNil_ap, mCons_ap, mDisp_ap, gSet_ap, gsNil_ap, gsCons_ap, gTupD_ap, mSet_ap, mAsg_ap, mPar_ap, mExpr_ap, mRet_ap, mRetN_ap, mNext_ap, mBreak_ap, mCont_ap, mSeq_ap, mIf_ap, iSeq_ap, iRan_ap, iRan2_ap, iEnm_ap, iZp_ap, mFor_ap, mWhile_ap, mCall_ap, mkD_ap, mLc_ap, fI_ap, fAdd_ap, fSub_ap, fMul_ap, fMod_ap, fDiv_ap, fPow_ap, fLt_ap, fLe_ap, fGt_ap, fGe_ap, fIsN_ap, fNotN_ap, fIsB_ap, fIx_ap, fAddX_ap, fSubX_ap, fMulX_ap, m1_ap, fNeg_ap, mB1_ap, fLen_ap, fAbs_ap, fInt_ap, fMin2_ap, fMax2_ap, fList_ap, fTuple_ap, fStr_ap, mMt_ap, mMtZ_ap, fAppend_ap, fInsert_ap, fExtend_ap, fPopAt_ap, mChain_ap, oNone_ap, oSome_ap, mSl_ap, gIx_ap, fInX_ap, fNotInX_ap, mIsi_ap, fEqX_ap, fNeX_ap, fAll_ap, fAny_ap, fSum_ap, fSorted_ap, fBest_ap, fIdx_ap, fRepr_ap, mPermA_ap, fBack_ap, gSplice_ap, mSortSet_ap, fMulY_ap, mTupRan_ap, mFz_ap, mGh_ap, fIsX_ap, mGhO_ap, ia_none_int, ia_none_bool, ia_none_list, ia_none_tuple, ia_none_str, ia_none_seq, ia_bool_int, ia_bool_bool, ia_bool_list, ia_bool_tuple, ia_bool_str, ia_bool_seq, ia_int_int, ia_int_bool, ia_int_list, ia_int_tuple, ia_int_str, ia_int_seq, ia_str_int, ia_str_bool, ia_str_list, ia_str_tuple, ia_str_str, ia_str_seq, ia_list_int, ia_list_bool, ia_list_list, ia_list_tuple, ia_list_str, ia_list_seq, ia_tuple_int, ia_tuple_bool, ia_tuple_list, ia_tuple_tuple, ia_tuple_str, ia_tuple_seq, mLst_ap, mTup_ap, mYes_ap, sizeLine_v, shaped_int, eqv_int, shaped_bool, eqv_bool, shaped_none, shaped_nilT, shaped_nilL, frz, frzAll, peek, res1, resAll, stoAll, argOf, argsOf, bors, wback, outAt, outsFrom, ownsStay, retv, wipeF, unwipe, sto, isNone, tyD, cY, cMul, cMod, cDiv, cPow, Cell.dat, b2n, frzS, frzL, fzV, atI, ixN, fMulL])
  | .dict _, o, _ => simp [Ok] at o
  | .list [], o, _ => exact bent_odd hO hl hl2 hb hb2 hs hC o (hs.mono (by omega)) (by simp [mVar_ap, mLit_ap, m2_ap, mB_ap, mAndT_ap, mOrT_ap, mNotT_ap, mAndV_ap, mOrV_ap, mNotV_ap, mIfE_ap, mNil_ap, mCons_ap, mDisp_ap, gSet_ap, gsNil_ap, gsCons_ap, gTupD_ap, mSet_ap, mAsg_ap, mPar_ap, mExpr_ap, mRet_ap, mRetN_ap, mNext_ap, mBreak_ap, mCont_ap, mSeq_ap, mIf_ap, iSeq_ap, iRan_ap, iRan2_ap, iEnm_ap, iZp_ap, mFor_ap, mWhile_ap, mCall_ap, mkD_ap, mLc_ap, fI_ap, fAdd_ap, fSub_ap, fMul_ap, fMod_ap, fDiv_ap, fPow_ap, fLt_ap, fLe_ap, fGt_ap, fGe_ap, fIsN_ap, fNotN_ap, fIsB_ap, fIx_ap, fAddX_ap, fSubX_ap, fMulX_ap, m1_ap, fNeg_ap, mB1_ap, fLen_ap, fAbs_ap, fInt_ap, fMin2_ap, fMax2_ap, fList_ap, fTuple_ap, fStr_ap, mMt_ap, mMtZ_ap, fAppend_ap, fInsert_ap, fExtend_ap, fPopAt_ap, mChain_ap, oNone_ap, oSome_ap, mSl_ap, gIx_ap, fInX_ap, fNotInX_ap, mIsi_ap, fEqX_ap, fNeX_ap, fAll_ap, fAny_ap, fSum_ap, fSorted_ap, fBest_ap, fIdx_ap, fRepr_ap, mPermA_ap, fBack_ap, gSplice_ap, mSortSet_ap, fMulY_ap, mTupRan_ap, mFz_ap, mGh_ap, fIsX_ap, mGhO_ap, ia_none_int, ia_none_bool, ia_none_list, ia_none_tuple, ia_none_str, ia_none_seq, ia_bool_int, ia_bool_bool, ia_bool_list, ia_bool_tuple, ia_bool_str, ia_bool_seq, ia_int_int, ia_int_bool, ia_int_list, ia_int_tuple, ia_int_str, ia_int_seq, ia_str_int, ia_str_bool, ia_str_list, ia_str_tuple, ia_str_str, ia_str_seq, ia_list_int, ia_list_bool, ia_list_list, ia_list_tuple, ia_list_str, ia_list_seq, ia_tuple_int, ia_tuple_bool, ia_tuple_list, ia_tuple_tuple, ia_tuple_str, ia_tuple_seq, mLst_ap, mTup_ap, mYes_ap, sizeLine_v, shaped_int, eqv_int, shaped_bool, eqv_bool, shaped_none, shaped_nilT, shaped_nilL, frz, frzAll, peek, res1, resAll, stoAll, argOf, argsOf, bors, wback, outAt, outsFrom, ownsStay, retv, wipeF, unwipe, sto, isNone, tyD, cY, cMul, cMod, cDiv, cPow, Cell.dat, b2n, frzS, frzL, fzV, atI, ixN, fMulL])
  | .tuple [], o, _ => exact bent_odd hO hl hl2 hb hb2 hs hC o (hs.mono (by omega)) (by simp [mVar_ap, mLit_ap, m2_ap, mB_ap, mAndT_ap, mOrT_ap, mNotT_ap, mAndV_ap, mOrV_ap, mNotV_ap, mIfE_ap, mNil_ap, mCons_ap, mDisp_ap, gSet_ap, gsNil_ap, gsCons_ap, gTupD_ap, mSet_ap, mAsg_ap, mPar_ap, mExpr_ap, mRet_ap, mRetN_ap, mNext_ap, mBreak_ap, mCont_ap, mSeq_ap, mIf_ap, iSeq_ap, iRan_ap, iRan2_ap, iEnm_ap, iZp_ap, mFor_ap, mWhile_ap, mCall_ap, mkD_ap, mLc_ap, fI_ap, fAdd_ap, fSub_ap, fMul_ap, fMod_ap, fDiv_ap, fPow_ap, fLt_ap, fLe_ap, fGt_ap, fGe_ap, fIsN_ap, fNotN_ap, fIsB_ap, fIx_ap, fAddX_ap, fSubX_ap, fMulX_ap, m1_ap, fNeg_ap, mB1_ap, fLen_ap, fAbs_ap, fInt_ap, fMin2_ap, fMax2_ap, fList_ap, fTuple_ap, fStr_ap, mMt_ap, mMtZ_ap, fAppend_ap, fInsert_ap, fExtend_ap, fPopAt_ap, mChain_ap, oNone_ap, oSome_ap, mSl_ap, gIx_ap, fInX_ap, fNotInX_ap, mIsi_ap, fEqX_ap, fNeX_ap, fAll_ap, fAny_ap, fSum_ap, fSorted_ap, fBest_ap, fIdx_ap, fRepr_ap, mPermA_ap, fBack_ap, gSplice_ap, mSortSet_ap, fMulY_ap, mTupRan_ap, mFz_ap, mGh_ap, fIsX_ap, mGhO_ap, ia_none_int, ia_none_bool, ia_none_list, ia_none_tuple, ia_none_str, ia_none_seq, ia_bool_int, ia_bool_bool, ia_bool_list, ia_bool_tuple, ia_bool_str, ia_bool_seq, ia_int_int, ia_int_bool, ia_int_list, ia_int_tuple, ia_int_str, ia_int_seq, ia_str_int, ia_str_bool, ia_str_list, ia_str_tuple, ia_str_str, ia_str_seq, ia_list_int, ia_list_bool, ia_list_list, ia_list_tuple, ia_list_str, ia_list_seq, ia_tuple_int, ia_tuple_bool, ia_tuple_list, ia_tuple_tuple, ia_tuple_str, ia_tuple_seq, mLst_ap, mTup_ap, mYes_ap, sizeLine_v, shaped_int, eqv_int, shaped_bool, eqv_bool, shaped_none, shaped_nilT, shaped_nilL, frz, frzAll, peek, res1, resAll, stoAll, argOf, argsOf, bors, wback, outAt, outsFrom, ownsStay, retv, wipeF, unwipe, sto, isNone, tyD, cY, cMul, cMod, cDiv, cPow, Cell.dat, b2n, frzS, frzL, fzV, atI, ixN, fMulL])
  | .list (e :: es), _, main => exact main e es (.inl rfl)
  | .tuple (e :: es), _, main => exact main e es (.inr rfl)
/-! decided -/
def okBx (l b : Nat) : Nat → PyData → Bool
  | _, .none => true
  | _, .bool _ => true
  | _, .int i => decide (i.natAbs < b)
  | _, .str s => PyData.strOk s && decide (s.length ≤ 100)
  | h + 1, .list ds => decide (ds.length ≤ l) && ds.all (okBx l b h)
  | h + 1, .tuple ds => decide (ds.length ≤ l) && ds.all (okBx l b h)
  | _, _ => false
theorem okBx_ok {l b : Nat} : ∀ {h : Nat} {d : PyData}, okBx l b h d = true → Ok l b h d
  | _, .none, _ => by simp [Ok]
  | _, .bool _, _ => by simp [Ok]
  | _, .int i, o => by simpa [okBx, Ok] using o
  | _, .str s, o => by simpa [okBx, Ok] using o
  | 0, .list ds, o => by simp [okBx] at o
  | 0, .tuple ds, o => by simp [okBx] at o
  | 0, .dict _, o => by simp [okBx] at o
  | _ + 1, .dict _, o => by simp [okBx] at o
  | h + 1, .list ds, o => by
    simp only [okBx, Bool.and_eq_true, decide_eq_true_eq, List.all_eq_true] at o
    exact ⟨o.1, fun x m => okBx_ok (o.2 x m)⟩
  | h + 1, .tuple ds, o => by
    simp only [okBx, Bool.and_eq_true, decide_eq_true_eq, List.all_eq_true] at o
    exact ⟨o.1, fun x m => okBx_ok (o.2 x m)⟩
end Rf

/-! Sp5: shops as tuples or as lists; numbers, pairs, intervals. -/
namespace Rf
open PySem PySem.Spec PyProof.Rows L2
def sq : Bool → List PyData → PyData
  | true, ds => .tuple ds
  | false, ds => .list ds
def pairD (b : Bool) (p : Int × Int) : PyData := sq b [.int p.1, .int p.2]
def shopD (b : Bool) (S : Shop) : PyData := sq b [sq b (dI S.sizes), sq b (S.ranges.map (pairD b))]
theorem shopD_t (S : Shop) : shopD true S = dShop S := rfl
theorem lsA_ints : ∀ l : List Int, lsA (dI l) = dI l
  | [] => by simp [lsA]
  | x :: l => by have := lsA_ints l; simp only [List.map_cons, lsA, lsD, this]
theorem lsD_shop (S : Shop) : lsD (dShop S) = shopD false S := by
  have h : ∀ l : List (Int × Int), lsA (l.map dPair) = l.map (pairD false) := by
    intro l
    induction l with
    | nil => simp [lsA]
    | cons p l ih => simp only [List.map_cons, lsA, ih, dPair, lsD, pairD, sq]
  simp only [dShop, lsD, lsA, lsA_ints, h, shopD, sq]
theorem comp_lookM {α : Type} {g : MG} {mt : MT} {me : ME} {vs : List Nat} (fm : Fm) (enc : α → PyData) (p : α → Bool) (f : α → PyData) (l : List α) (h : ∀ a ∈ l, ∃ fm1 fm2, g (enc a) fm = some fm1 ∧ mt fm1 = some (p a, fm2) ∧ (p a = false → wipeF fm2 vs = fm) ∧ (p a = true → ∃ v fm3 fm4, me fm2 = some (v, fm3) ∧ frz v fm3 = some (f a, fm4) ∧ wipeF fm4 vs = fm)) : ∀ (acc : List PyData), acc.length + l.length ≤ sizeLine →
    compM g mt me vs (l.map enc) fm acc = some (acc ++ (l.filter p).map f, fm) := by
  induction l with
  | nil => intro acc _; simp [compM]
  | cons a l ih =>
    intro acc hs
    obtain ⟨fm1, fm2, h1, h2, h3, h4⟩ := h a (by simp)
    have h5 : acc.length < sizeLine := by simp at hs; omega
    have ih := ih fun a m => h a (by simp [m])
    cases hp : p a with
    | false =>
      have ih := ih acc (by simp at hs ⊢; omega)
      simp only [List.map_cons, compM, h1, h2, hp, h3 hp, ih, List.filter_cons, Bool.false_eq_true, ↓reduceIte]
    | true =>
      obtain ⟨v, fm3, fm4, k1, k2, k3⟩ := h4 hp
      have ih := ih (acc ++ [f a]) (by simp at hs ⊢; omega)
      simp only [List.map_cons, compM, h1, h2, hp, k1, k2, k3, if_pos h5, ih, List.filter_cons, ↓reduceIte, List.map_cons, List.append_assoc, List.cons_append, List.nil_append]
theorem comp_allM {α : Type} {g : MG} {me : ME} {vs : List Nat} (fm : Fm) (enc : α → PyData) (f : α → PyData) (l : List α) (h : ∀ a ∈ l, ∃ fm1 v fm3 fm4, g (enc a) fm = some fm1 ∧ me fm1 = some (v, fm3) ∧ frz v fm3 = some (f a, fm4) ∧ wipeF fm4 vs = fm) (hs : l.length ≤ sizeLine) :
    compM g mYes me vs (l.map enc) fm [] = some (l.map f, fm) := by
  have := comp_lookM (g := g) (mt := mYes) (me := me) (vs := vs) fm enc (fun _ => true) f l (fun d m => by
    obtain ⟨fm1, v, fm3, fm4, h1, h2, h3, h4⟩ := h d m
    exact ⟨fm1, fm1, h1, rfl, (fun z => nomatch z), fun _ => ⟨v, fm3, fm4, h2, h3, h4⟩⟩) [] (by simpa using hs)
  rwa [List.nil_append, List.filter_eq_self.2 (fun _ _ => rfl)] at this
theorem lc_pure {α : Type} {n : Nat} {mi : MI} {g : MG} {mt : MT} {me : ME} {vs : List Nat} {fm fm1 fmw fm3 : Fm} (enc : α → PyData) (p : α → Bool) (f : α → PyData) (l : List α) (hmi : mi fm = some (l.map enc, fm1)) (hn : fm.length ≤ n) (hw : wipeF fm1 vs = fmw) (hu : unwipe fm1 fmw vs = some fm3) (hl : l.length ≤ 16777216)
    (h : ∀ a ∈ l, ∃ fm2, g (enc a) fmw = some fm2 ∧ mt fm2 = some (p a, fm2) ∧ (p a = true → ∃ v, me fm2 = some (v, fm2) ∧ frz v fm2 = some (f a, fm2)) ∧ wipeF fm2 vs = fmw) : mLc n mi g mt me vs fm = some (.fre (.lst ((l.filter p).map f)), fm3) := by
  have := comp_lookM (g := g) (mt := mt) (me := me) (vs := vs) fmw enc p f l (fun a m => by
    obtain ⟨fm2, h1, h2, h3, h4⟩ := h a m
    exact ⟨fm2, fm2, h1, h2, fun _ => h4, fun hp => by obtain ⟨v, k1, k2⟩ := h3 hp; exact ⟨v, fm2, fm2, k1, k2, h4⟩⟩) [] (by rw [sizeLine_v]; simpa using hl)
  rw [mLc_ap, hmi]
  simp only [hn, ↓reduceIte, hw, this, List.nil_append, hu]
theorem lc_all {α : Type} {n : Nat} {mi : MI} {g : MG} {me : ME} {vs : List Nat} {fm fm1 fmw fm3 : Fm} (enc : α → PyData) (f : α → PyData) (l : List α) (hmi : mi fm = some (l.map enc, fm1)) (hn : fm.length ≤ n) (hw : wipeF fm1 vs = fmw) (hu : unwipe fm1 fmw vs = some fm3) (hl : l.length ≤ 16777216)
    (h : ∀ a ∈ l, ∃ fm2 v, g (enc a) fmw = some fm2 ∧ me fm2 = some (v, fm2) ∧ frz v fm2 = some (f a, fm2) ∧ wipeF fm2 vs = fmw) : mLc n mi g mYes me vs fm = some (.fre (.lst (l.map f)), fm3) := by
  have := lc_pure (n := n) (mi := mi) (g := g) (mt := mYes) (me := me) (vs := vs) (fm := fm) (fm1 := fm1) (fmw := fmw) (fm3 := fm3) enc (fun _ => true) f l hmi hn hw hu hl (fun a m => by
    obtain ⟨fm2, v, h1, h2, h3, h4⟩ := h a m
    exact ⟨fm2, h1, rfl, fun _ => ⟨v, h2, h3⟩, h4⟩)
  rwa [List.filter_eq_self.2 (fun _ _ => rfl)] at this
/-! numbers -/
def numB : PyData → Bool
  | .int _ => true
  | _ => false
def SpNum (D : Dm) : Prop := ∀ d : PyData, plainD d = true → D [.dat d] = some (.dat (.bool (numB d)), [.dat d])
theorem sp_num : SpNum Bis_number := by
  intro d hd
  cases d <;> simp [plainD] at hd <;> simp [Bis_number, mVar_ap, mLit_ap, m2_ap, mB_ap, mAndT_ap, mOrT_ap, mNotT_ap, mAndV_ap, mOrV_ap, mNotV_ap, mIfE_ap, mNil_ap, mCons_ap, mDisp_ap, gSet_ap, gsNil_ap, gsCons_ap, gTupD_ap, mSet_ap, mAsg_ap, mPar_ap, mExpr_ap, mRet_ap, mRetN_ap, mNext_ap, mBreak_ap, mCont_ap, mSeq_ap, mIf_ap, iSeq_ap, iRan_ap, iRan2_ap, iEnm_ap, iZp_ap, mFor_ap, mWhile_ap, mCall_ap, mkD_ap, mLc_ap, fI_ap, fAdd_ap, fSub_ap, fMul_ap, fMod_ap, fDiv_ap, fPow_ap, fLt_ap, fLe_ap, fGt_ap, fGe_ap, fIsN_ap, fNotN_ap, fIsB_ap, fIx_ap, fAddX_ap, fSubX_ap, fMulX_ap, m1_ap, fNeg_ap, mB1_ap, fLen_ap, fAbs_ap, fInt_ap, fMin2_ap, fMax2_ap, fList_ap, fTuple_ap, fStr_ap, mMt_ap, mMtZ_ap, fAppend_ap, fInsert_ap, fExtend_ap, fPopAt_ap, mChain_ap, oNone_ap, oSome_ap, mSl_ap, gIx_ap, fInX_ap, fNotInX_ap, mIsi_ap, fEqX_ap, fNeX_ap, fAll_ap, fAny_ap, fSum_ap, fSorted_ap, fBest_ap, fIdx_ap, fRepr_ap, mPermA_ap, fBack_ap, gSplice_ap, mSortSet_ap, fMulY_ap, mTupRan_ap, mFz_ap, mGh_ap, fIsX_ap, mGhO_ap, ia_none_int, ia_none_bool, ia_none_list, ia_none_tuple, ia_none_str, ia_none_seq, ia_bool_int, ia_bool_bool, ia_bool_list, ia_bool_tuple, ia_bool_str, ia_bool_seq, ia_int_int, ia_int_bool, ia_int_list, ia_int_tuple, ia_int_str, ia_int_seq, ia_str_int, ia_str_bool, ia_str_list, ia_str_tuple, ia_str_str, ia_str_seq, ia_list_int, ia_list_bool, ia_list_list, ia_list_tuple, ia_list_str, ia_list_seq, ia_tuple_int, ia_tuple_bool, ia_tuple_list, ia_tuple_tuple, ia_tuple_str, ia_tuple_seq, mLst_ap, mTup_ap, mYes_ap, sizeLine_v, shaped_int, eqv_int, shaped_bool, eqv_bool, shaped_none, shaped_nilT, shaped_nilL, frz, frzAll, peek, res1, resAll, stoAll, argOf, argsOf, bors, wback, outAt, outsFrom, ownsStay, retv, wipeF, unwipe, sto, isNone, tyD, cY, cMul, cMod, cDiv, cPow, Cell.dat, b2n, frzS, frzL, fzV, atI, ixN, fMulL, numB]
theorem sp_integer : SpNum B_integer := by
  intro d hd
  cases d <;> simp [plainD] at hd <;> simp [B_integer, mVar_ap, mLit_ap, m2_ap, mB_ap, mAndT_ap, mOrT_ap, mNotT_ap, mAndV_ap, mOrV_ap, mNotV_ap, mIfE_ap, mNil_ap, mCons_ap, mDisp_ap, gSet_ap, gsNil_ap, gsCons_ap, gTupD_ap, mSet_ap, mAsg_ap, mPar_ap, mExpr_ap, mRet_ap, mRetN_ap, mNext_ap, mBreak_ap, mCont_ap, mSeq_ap, mIf_ap, iSeq_ap, iRan_ap, iRan2_ap, iEnm_ap, iZp_ap, mFor_ap, mWhile_ap, mCall_ap, mkD_ap, mLc_ap, fI_ap, fAdd_ap, fSub_ap, fMul_ap, fMod_ap, fDiv_ap, fPow_ap, fLt_ap, fLe_ap, fGt_ap, fGe_ap, fIsN_ap, fNotN_ap, fIsB_ap, fIx_ap, fAddX_ap, fSubX_ap, fMulX_ap, m1_ap, fNeg_ap, mB1_ap, fLen_ap, fAbs_ap, fInt_ap, fMin2_ap, fMax2_ap, fList_ap, fTuple_ap, fStr_ap, mMt_ap, mMtZ_ap, fAppend_ap, fInsert_ap, fExtend_ap, fPopAt_ap, mChain_ap, oNone_ap, oSome_ap, mSl_ap, gIx_ap, fInX_ap, fNotInX_ap, mIsi_ap, fEqX_ap, fNeX_ap, fAll_ap, fAny_ap, fSum_ap, fSorted_ap, fBest_ap, fIdx_ap, fRepr_ap, mPermA_ap, fBack_ap, gSplice_ap, mSortSet_ap, fMulY_ap, mTupRan_ap, mFz_ap, mGh_ap, fIsX_ap, mGhO_ap, ia_none_int, ia_none_bool, ia_none_list, ia_none_tuple, ia_none_str, ia_none_seq, ia_bool_int, ia_bool_bool, ia_bool_list, ia_bool_tuple, ia_bool_str, ia_bool_seq, ia_int_int, ia_int_bool, ia_int_list, ia_int_tuple, ia_int_str, ia_int_seq, ia_str_int, ia_str_bool, ia_str_list, ia_str_tuple, ia_str_str, ia_str_seq, ia_list_int, ia_list_bool, ia_list_list, ia_list_tuple, ia_list_str, ia_list_seq, ia_tuple_int, ia_tuple_bool, ia_tuple_list, ia_tuple_tuple, ia_tuple_str, ia_tuple_seq, mLst_ap, mTup_ap, mYes_ap, sizeLine_v, shaped_int, eqv_int, shaped_bool, eqv_bool, shaped_none, shaped_nilT, shaped_nilL, frz, frzAll, peek, res1, resAll, stoAll, argOf, argsOf, bors, wback, outAt, outsFrom, ownsStay, retv, wipeF, unwipe, sto, isNone, tyD, cY, cMul, cMod, cDiv, cPow, Cell.dat, b2n, frzS, frzL, fzV, atI, ixN, fMulL, numB]
def pairB : PyData → Bool
  | .tuple [_, _] => true
  | _ => false
def SpPair (D : Dm) : Prop := ∀ d : PyData, plainD d = true → D [.dat d] = some (.dat (.bool (pairB d)), [.dat d])
theorem sp_pair : SpPair Bis_pair := by
  intro d hd
  match d, hd with
  | .none, _ => simp [Bis_pair, mVar_ap, mLit_ap, m2_ap, mB_ap, mAndT_ap, mOrT_ap, mNotT_ap, mAndV_ap, mOrV_ap, mNotV_ap, mIfE_ap, mNil_ap, mCons_ap, mDisp_ap, gSet_ap, gsNil_ap, gsCons_ap, gTupD_ap, mSet_ap, mAsg_ap, mPar_ap, mExpr_ap, mRet_ap, mRetN_ap, mNext_ap, mBreak_ap, mCont_ap, mSeq_ap, mIf_ap, iSeq_ap, iRan_ap, iRan2_ap, iEnm_ap, iZp_ap, mFor_ap, mWhile_ap, mCall_ap, mkD_ap, mLc_ap, fI_ap, fAdd_ap, fSub_ap, fMul_ap, fMod_ap, fDiv_ap, fPow_ap, fLt_ap, fLe_ap, fGt_ap, fGe_ap, fIsN_ap, fNotN_ap, fIsB_ap, fIx_ap, fAddX_ap, fSubX_ap, fMulX_ap, m1_ap, fNeg_ap, mB1_ap, fLen_ap, fAbs_ap, fInt_ap, fMin2_ap, fMax2_ap, fList_ap, fTuple_ap, fStr_ap, mMt_ap, mMtZ_ap, fAppend_ap, fInsert_ap, fExtend_ap, fPopAt_ap, mChain_ap, oNone_ap, oSome_ap, mSl_ap, gIx_ap, fInX_ap, fNotInX_ap, mIsi_ap, fEqX_ap, fNeX_ap, fAll_ap, fAny_ap, fSum_ap, fSorted_ap, fBest_ap, fIdx_ap, fRepr_ap, mPermA_ap, fBack_ap, gSplice_ap, mSortSet_ap, fMulY_ap, mTupRan_ap, mFz_ap, mGh_ap, fIsX_ap, mGhO_ap, ia_none_int, ia_none_bool, ia_none_list, ia_none_tuple, ia_none_str, ia_none_seq, ia_bool_int, ia_bool_bool, ia_bool_list, ia_bool_tuple, ia_bool_str, ia_bool_seq, ia_int_int, ia_int_bool, ia_int_list, ia_int_tuple, ia_int_str, ia_int_seq, ia_str_int, ia_str_bool, ia_str_list, ia_str_tuple, ia_str_str, ia_str_seq, ia_list_int, ia_list_bool, ia_list_list, ia_list_tuple, ia_list_str, ia_list_seq, ia_tuple_int, ia_tuple_bool, ia_tuple_list, ia_tuple_tuple, ia_tuple_str, ia_tuple_seq, mLst_ap, mTup_ap, mYes_ap, sizeLine_v, shaped_int, eqv_int, shaped_bool, eqv_bool, shaped_none, shaped_nilT, shaped_nilL, frz, frzAll, peek, res1, resAll, stoAll, argOf, argsOf, bors, wback, outAt, outsFrom, ownsStay, retv, wipeF, unwipe, sto, isNone, tyD, cY, cMul, cMod, cDiv, cPow, Cell.dat, b2n, frzS, frzL, fzV, atI, ixN, fMulL, pairB]
  | .bool _, _ => simp [Bis_pair, mVar_ap, mLit_ap, m2_ap, mB_ap, mAndT_ap, mOrT_ap, mNotT_ap, mAndV_ap, mOrV_ap, mNotV_ap, mIfE_ap, mNil_ap, mCons_ap, mDisp_ap, gSet_ap, gsNil_ap, gsCons_ap, gTupD_ap, mSet_ap, mAsg_ap, mPar_ap, mExpr_ap, mRet_ap, mRetN_ap, mNext_ap, mBreak_ap, mCont_ap, mSeq_ap, mIf_ap, iSeq_ap, iRan_ap, iRan2_ap, iEnm_ap, iZp_ap, mFor_ap, mWhile_ap, mCall_ap, mkD_ap, mLc_ap, fI_ap, fAdd_ap, fSub_ap, fMul_ap, fMod_ap, fDiv_ap, fPow_ap, fLt_ap, fLe_ap, fGt_ap, fGe_ap, fIsN_ap, fNotN_ap, fIsB_ap, fIx_ap, fAddX_ap, fSubX_ap, fMulX_ap, m1_ap, fNeg_ap, mB1_ap, fLen_ap, fAbs_ap, fInt_ap, fMin2_ap, fMax2_ap, fList_ap, fTuple_ap, fStr_ap, mMt_ap, mMtZ_ap, fAppend_ap, fInsert_ap, fExtend_ap, fPopAt_ap, mChain_ap, oNone_ap, oSome_ap, mSl_ap, gIx_ap, fInX_ap, fNotInX_ap, mIsi_ap, fEqX_ap, fNeX_ap, fAll_ap, fAny_ap, fSum_ap, fSorted_ap, fBest_ap, fIdx_ap, fRepr_ap, mPermA_ap, fBack_ap, gSplice_ap, mSortSet_ap, fMulY_ap, mTupRan_ap, mFz_ap, mGh_ap, fIsX_ap, mGhO_ap, ia_none_int, ia_none_bool, ia_none_list, ia_none_tuple, ia_none_str, ia_none_seq, ia_bool_int, ia_bool_bool, ia_bool_list, ia_bool_tuple, ia_bool_str, ia_bool_seq, ia_int_int, ia_int_bool, ia_int_list, ia_int_tuple, ia_int_str, ia_int_seq, ia_str_int, ia_str_bool, ia_str_list, ia_str_tuple, ia_str_str, ia_str_seq, ia_list_int, ia_list_bool, ia_list_list, ia_list_tuple, ia_list_str, ia_list_seq, ia_tuple_int, ia_tuple_bool, ia_tuple_list, ia_tuple_tuple, ia_tuple_str, ia_tuple_seq, mLst_ap, mTup_ap, mYes_ap, sizeLine_v, shaped_int, eqv_int, shaped_bool, eqv_bool, shaped_none, shaped_nilT, shaped_nilL, frz, frzAll, peek, res1, resAll, stoAll, argOf, argsOf, bors, wback, outAt, outsFrom, ownsStay, retv, wipeF, unwipe, sto, isNone, tyD, cY, cMul, cMod, cDiv, cPow, Cell.dat, b2n, frzS, frzL, fzV, atI, ixN, fMulL, pairB]
  | .int _, _ => simp [Bis_pair, mVar_ap, mLit_ap, m2_ap, mB_ap, mAndT_ap, mOrT_ap, mNotT_ap, mAndV_ap, mOrV_ap, mNotV_ap, mIfE_ap, mNil_ap, mCons_ap, mDisp_ap, gSet_ap, gsNil_ap, gsCons_ap, gTupD_ap, mSet_ap, mAsg_ap, mPar_ap, mExpr_ap, mRet_ap, mRetN_ap, mNext_ap, mBreak_ap, mCont_ap, mSeq_ap, mIf_ap, iSeq_ap, iRan_ap, iRan2_ap, iEnm_ap, iZp_ap, mFor_ap, mWhile_ap, mCall_ap, mkD_ap, mLc_ap, fI_ap, fAdd_ap, fSub_ap, fMul_ap, fMod_ap, fDiv_ap, fPow_ap, fLt_ap, fLe_ap, fGt_ap, fGe_ap, fIsN_ap, fNotN_ap, fIsB_ap, fIx_ap, fAddX_ap, fSubX_ap, fMulX_ap, m1_ap, fNeg_ap, mB1_ap, fLen_ap, fAbs_ap, fInt_ap, fMin2_ap, fMax2_ap, fList_ap, fTuple_ap, fStr_ap, mMt_ap, mMtZ_ap, fAppend_ap, fInsert_ap, fExtend_ap, fPopAt_ap, mChain_ap, oNone_ap, oSome_ap, mSl_ap, gIx_ap, fInX_ap, fNotInX_ap, mIsi_ap, fEqX_ap, fNeX_ap, fAll_ap, fAny_ap, fSum_ap, fSorted_ap, fBest_ap, fIdx_ap, fRepr_ap, mPermA_ap, fBack_ap, gSplice_ap, mSortSet_ap, fMulY_ap, mTupRan_ap, mFz_ap, mGh_ap, fIsX_ap, mGhO_ap, ia_none_int, ia_none_bool, ia_none_list, ia_none_tuple, ia_none_str, ia_none_seq, ia_bool_int, ia_bool_bool, ia_bool_list, ia_bool_tuple, ia_bool_str, ia_bool_seq, ia_int_int, ia_int_bool, ia_int_list, ia_int_tuple, ia_int_str, ia_int_seq, ia_str_int, ia_str_bool, ia_str_list, ia_str_tuple, ia_str_str, ia_str_seq, ia_list_int, ia_list_bool, ia_list_list, ia_list_tuple, ia_list_str, ia_list_seq, ia_tuple_int, ia_tuple_bool, ia_tuple_list, ia_tuple_tuple, ia_tuple_str, ia_tuple_seq, mLst_ap, mTup_ap, mYes_ap, sizeLine_v, shaped_int, eqv_int, shaped_bool, eqv_bool, shaped_none, shaped_nilT, shaped_nilL, frz, frzAll, peek, res1, resAll, stoAll, argOf, argsOf, bors, wback, outAt, outsFrom, ownsStay, retv, wipeF, unwipe, sto, isNone, tyD, cY, cMul, cMod, cDiv, cPow, Cell.dat, b2n, frzS, frzL, fzV, atI, ixN, fMulL, pairB]
  | .str _, _ => simp [Bis_pair, mVar_ap, mLit_ap, m2_ap, mB_ap, mAndT_ap, mOrT_ap, mNotT_ap, mAndV_ap, mOrV_ap, mNotV_ap, mIfE_ap, mNil_ap, mCons_ap, mDisp_ap, gSet_ap, gsNil_ap, gsCons_ap, gTupD_ap, mSet_ap, mAsg_ap, mPar_ap, mExpr_ap, mRet_ap, mRetN_ap, mNext_ap, mBreak_ap, mCont_ap, mSeq_ap, mIf_ap, iSeq_ap, iRan_ap, iRan2_ap, iEnm_ap, iZp_ap, mFor_ap, mWhile_ap, mCall_ap, mkD_ap, mLc_ap, fI_ap, fAdd_ap, fSub_ap, fMul_ap, fMod_ap, fDiv_ap, fPow_ap, fLt_ap, fLe_ap, fGt_ap, fGe_ap, fIsN_ap, fNotN_ap, fIsB_ap, fIx_ap, fAddX_ap, fSubX_ap, fMulX_ap, m1_ap, fNeg_ap, mB1_ap, fLen_ap, fAbs_ap, fInt_ap, fMin2_ap, fMax2_ap, fList_ap, fTuple_ap, fStr_ap, mMt_ap, mMtZ_ap, fAppend_ap, fInsert_ap, fExtend_ap, fPopAt_ap, mChain_ap, oNone_ap, oSome_ap, mSl_ap, gIx_ap, fInX_ap, fNotInX_ap, mIsi_ap, fEqX_ap, fNeX_ap, fAll_ap, fAny_ap, fSum_ap, fSorted_ap, fBest_ap, fIdx_ap, fRepr_ap, mPermA_ap, fBack_ap, gSplice_ap, mSortSet_ap, fMulY_ap, mTupRan_ap, mFz_ap, mGh_ap, fIsX_ap, mGhO_ap, ia_none_int, ia_none_bool, ia_none_list, ia_none_tuple, ia_none_str, ia_none_seq, ia_bool_int, ia_bool_bool, ia_bool_list, ia_bool_tuple, ia_bool_str, ia_bool_seq, ia_int_int, ia_int_bool, ia_int_list, ia_int_tuple, ia_int_str, ia_int_seq, ia_str_int, ia_str_bool, ia_str_list, ia_str_tuple, ia_str_str, ia_str_seq, ia_list_int, ia_list_bool, ia_list_list, ia_list_tuple, ia_list_str, ia_list_seq, ia_tuple_int, ia_tuple_bool, ia_tuple_list, ia_tuple_tuple, ia_tuple_str, ia_tuple_seq, mLst_ap, mTup_ap, mYes_ap, sizeLine_v, shaped_int, eqv_int, shaped_bool, eqv_bool, shaped_none, shaped_nilT, shaped_nilL, frz, frzAll, peek, res1, resAll, stoAll, argOf, argsOf, bors, wback, outAt, outsFrom, ownsStay, retv, wipeF, unwipe, sto, isNone, tyD, cY, cMul, cMod, cDiv, cPow, Cell.dat, b2n, frzS, frzL, fzV, atI, ixN, fMulL, pairB]
  | .list _, _ => simp [Bis_pair, mVar_ap, mLit_ap, m2_ap, mB_ap, mAndT_ap, mOrT_ap, mNotT_ap, mAndV_ap, mOrV_ap, mNotV_ap, mIfE_ap, mNil_ap, mCons_ap, mDisp_ap, gSet_ap, gsNil_ap, gsCons_ap, gTupD_ap, mSet_ap, mAsg_ap, mPar_ap, mExpr_ap, mRet_ap, mRetN_ap, mNext_ap, mBreak_ap, mCont_ap, mSeq_ap, mIf_ap, iSeq_ap, iRan_ap, iRan2_ap, iEnm_ap, iZp_ap, mFor_ap, mWhile_ap, mCall_ap, mkD_ap, mLc_ap, fI_ap, fAdd_ap, fSub_ap, fMul_ap, fMod_ap, fDiv_ap, fPow_ap, fLt_ap, fLe_ap, fGt_ap, fGe_ap, fIsN_ap, fNotN_ap, fIsB_ap, fIx_ap, fAddX_ap, fSubX_ap, fMulX_ap, m1_ap, fNeg_ap, mB1_ap, fLen_ap, fAbs_ap, fInt_ap, fMin2_ap, fMax2_ap, fList_ap, fTuple_ap, fStr_ap, mMt_ap, mMtZ_ap, fAppend_ap, fInsert_ap, fExtend_ap, fPopAt_ap, mChain_ap, oNone_ap, oSome_ap, mSl_ap, gIx_ap, fInX_ap, fNotInX_ap, mIsi_ap, fEqX_ap, fNeX_ap, fAll_ap, fAny_ap, fSum_ap, fSorted_ap, fBest_ap, fIdx_ap, fRepr_ap, mPermA_ap, fBack_ap, gSplice_ap, mSortSet_ap, fMulY_ap, mTupRan_ap, mFz_ap, mGh_ap, fIsX_ap, mGhO_ap, ia_none_int, ia_none_bool, ia_none_list, ia_none_tuple, ia_none_str, ia_none_seq, ia_bool_int, ia_bool_bool, ia_bool_list, ia_bool_tuple, ia_bool_str, ia_bool_seq, ia_int_int, ia_int_bool, ia_int_list, ia_int_tuple, ia_int_str, ia_int_seq, ia_str_int, ia_str_bool, ia_str_list, ia_str_tuple, ia_str_str, ia_str_seq, ia_list_int, ia_list_bool, ia_list_list, ia_list_tuple, ia_list_str, ia_list_seq, ia_tuple_int, ia_tuple_bool, ia_tuple_list, ia_tuple_tuple, ia_tuple_str, ia_tuple_seq, mLst_ap, mTup_ap, mYes_ap, sizeLine_v, shaped_int, eqv_int, shaped_bool, eqv_bool, shaped_none, shaped_nilT, shaped_nilL, frz, frzAll, peek, res1, resAll, stoAll, argOf, argsOf, bors, wback, outAt, outsFrom, ownsStay, retv, wipeF, unwipe, sto, isNone, tyD, cY, cMul, cMod, cDiv, cPow, Cell.dat, b2n, frzS, frzL, fzV, atI, ixN, fMulL, pairB]
  | .tuple [], _ => simp [Bis_pair, mVar_ap, mLit_ap, m2_ap, mB_ap, mAndT_ap, mOrT_ap, mNotT_ap, mAndV_ap, mOrV_ap, mNotV_ap, mIfE_ap, mNil_ap, mCons_ap, mDisp_ap, gSet_ap, gsNil_ap, gsCons_ap, gTupD_ap, mSet_ap, mAsg_ap, mPar_ap, mExpr_ap, mRet_ap, mRetN_ap, mNext_ap, mBreak_ap, mCont_ap, mSeq_ap, mIf_ap, iSeq_ap, iRan_ap, iRan2_ap, iEnm_ap, iZp_ap, mFor_ap, mWhile_ap, mCall_ap, mkD_ap, mLc_ap, fI_ap, fAdd_ap, fSub_ap, fMul_ap, fMod_ap, fDiv_ap, fPow_ap, fLt_ap, fLe_ap, fGt_ap, fGe_ap, fIsN_ap, fNotN_ap, fIsB_ap, fIx_ap, fAddX_ap, fSubX_ap, fMulX_ap, m1_ap, fNeg_ap, mB1_ap, fLen_ap, fAbs_ap, fInt_ap, fMin2_ap, fMax2_ap, fList_ap, fTuple_ap, fStr_ap, mMt_ap, mMtZ_ap, fAppend_ap, fInsert_ap, fExtend_ap, fPopAt_ap, mChain_ap, oNone_ap, oSome_ap, mSl_ap, gIx_ap, fInX_ap, fNotInX_ap, mIsi_ap, fEqX_ap, fNeX_ap, fAll_ap, fAny_ap, fSum_ap, fSorted_ap, fBest_ap, fIdx_ap, fRepr_ap, mPermA_ap, fBack_ap, gSplice_ap, mSortSet_ap, fMulY_ap, mTupRan_ap, mFz_ap, mGh_ap, fIsX_ap, mGhO_ap, ia_none_int, ia_none_bool, ia_none_list, ia_none_tuple, ia_none_str, ia_none_seq, ia_bool_int, ia_bool_bool, ia_bool_list, ia_bool_tuple, ia_bool_str, ia_bool_seq, ia_int_int, ia_int_bool, ia_int_list, ia_int_tuple, ia_int_str, ia_int_seq, ia_str_int, ia_str_bool, ia_str_list, ia_str_tuple, ia_str_str, ia_str_seq, ia_list_int, ia_list_bool, ia_list_list, ia_list_tuple, ia_list_str, ia_list_seq, ia_tuple_int, ia_tuple_bool, ia_tuple_list, ia_tuple_tuple, ia_tuple_str, ia_tuple_seq, mLst_ap, mTup_ap, mYes_ap, sizeLine_v, shaped_int, eqv_int, shaped_bool, eqv_bool, shaped_none, shaped_nilT, shaped_nilL, frz, frzAll, peek, res1, resAll, stoAll, argOf, argsOf, bors, wback, outAt, outsFrom, ownsStay, retv, wipeF, unwipe, sto, isNone, tyD, cY, cMul, cMod, cDiv, cPow, Cell.dat, b2n, frzS, frzL, fzV, atI, ixN, fMulL, pairB]
  | .tuple [_], _ => simp [Bis_pair, mVar_ap, mLit_ap, m2_ap, mB_ap, mAndT_ap, mOrT_ap, mNotT_ap, mAndV_ap, mOrV_ap, mNotV_ap, mIfE_ap, mNil_ap, mCons_ap, mDisp_ap, gSet_ap, gsNil_ap, gsCons_ap, gTupD_ap, mSet_ap, mAsg_ap, mPar_ap, mExpr_ap, mRet_ap, mRetN_ap, mNext_ap, mBreak_ap, mCont_ap, mSeq_ap, mIf_ap, iSeq_ap, iRan_ap, iRan2_ap, iEnm_ap, iZp_ap, mFor_ap, mWhile_ap, mCall_ap, mkD_ap, mLc_ap, fI_ap, fAdd_ap, fSub_ap, fMul_ap, fMod_ap, fDiv_ap, fPow_ap, fLt_ap, fLe_ap, fGt_ap, fGe_ap, fIsN_ap, fNotN_ap, fIsB_ap, fIx_ap, fAddX_ap, fSubX_ap, fMulX_ap, m1_ap, fNeg_ap, mB1_ap, fLen_ap, fAbs_ap, fInt_ap, fMin2_ap, fMax2_ap, fList_ap, fTuple_ap, fStr_ap, mMt_ap, mMtZ_ap, fAppend_ap, fInsert_ap, fExtend_ap, fPopAt_ap, mChain_ap, oNone_ap, oSome_ap, mSl_ap, gIx_ap, fInX_ap, fNotInX_ap, mIsi_ap, fEqX_ap, fNeX_ap, fAll_ap, fAny_ap, fSum_ap, fSorted_ap, fBest_ap, fIdx_ap, fRepr_ap, mPermA_ap, fBack_ap, gSplice_ap, mSortSet_ap, fMulY_ap, mTupRan_ap, mFz_ap, mGh_ap, fIsX_ap, mGhO_ap, ia_none_int, ia_none_bool, ia_none_list, ia_none_tuple, ia_none_str, ia_none_seq, ia_bool_int, ia_bool_bool, ia_bool_list, ia_bool_tuple, ia_bool_str, ia_bool_seq, ia_int_int, ia_int_bool, ia_int_list, ia_int_tuple, ia_int_str, ia_int_seq, ia_str_int, ia_str_bool, ia_str_list, ia_str_tuple, ia_str_str, ia_str_seq, ia_list_int, ia_list_bool, ia_list_list, ia_list_tuple, ia_list_str, ia_list_seq, ia_tuple_int, ia_tuple_bool, ia_tuple_list, ia_tuple_tuple, ia_tuple_str, ia_tuple_seq, mLst_ap, mTup_ap, mYes_ap, sizeLine_v, shaped_int, eqv_int, shaped_bool, eqv_bool, shaped_none, shaped_nilT, shaped_nilL, frz, frzAll, peek, res1, resAll, stoAll, argOf, argsOf, bors, wback, outAt, outsFrom, ownsStay, retv, wipeF, unwipe, sto, isNone, tyD, cY, cMul, cMod, cDiv, cPow, Cell.dat, b2n, frzS, frzL, fzV, atI, ixN, fMulL, pairB]
  | .tuple [_, _], _ => simp [Bis_pair, mVar_ap, mLit_ap, m2_ap, mB_ap, mAndT_ap, mOrT_ap, mNotT_ap, mAndV_ap, mOrV_ap, mNotV_ap, mIfE_ap, mNil_ap, mCons_ap, mDisp_ap, gSet_ap, gsNil_ap, gsCons_ap, gTupD_ap, mSet_ap, mAsg_ap, mPar_ap, mExpr_ap, mRet_ap, mRetN_ap, mNext_ap, mBreak_ap, mCont_ap, mSeq_ap, mIf_ap, iSeq_ap, iRan_ap, iRan2_ap, iEnm_ap, iZp_ap, mFor_ap, mWhile_ap, mCall_ap, mkD_ap, mLc_ap, fI_ap, fAdd_ap, fSub_ap, fMul_ap, fMod_ap, fDiv_ap, fPow_ap, fLt_ap, fLe_ap, fGt_ap, fGe_ap, fIsN_ap, fNotN_ap, fIsB_ap, fIx_ap, fAddX_ap, fSubX_ap, fMulX_ap, m1_ap, fNeg_ap, mB1_ap, fLen_ap, fAbs_ap, fInt_ap, fMin2_ap, fMax2_ap, fList_ap, fTuple_ap, fStr_ap, mMt_ap, mMtZ_ap, fAppend_ap, fInsert_ap, fExtend_ap, fPopAt_ap, mChain_ap, oNone_ap, oSome_ap, mSl_ap, gIx_ap, fInX_ap, fNotInX_ap, mIsi_ap, fEqX_ap, fNeX_ap, fAll_ap, fAny_ap, fSum_ap, fSorted_ap, fBest_ap, fIdx_ap, fRepr_ap, mPermA_ap, fBack_ap, gSplice_ap, mSortSet_ap, fMulY_ap, mTupRan_ap, mFz_ap, mGh_ap, fIsX_ap, mGhO_ap, ia_none_int, ia_none_bool, ia_none_list, ia_none_tuple, ia_none_str, ia_none_seq, ia_bool_int, ia_bool_bool, ia_bool_list, ia_bool_tuple, ia_bool_str, ia_bool_seq, ia_int_int, ia_int_bool, ia_int_list, ia_int_tuple, ia_int_str, ia_int_seq, ia_str_int, ia_str_bool, ia_str_list, ia_str_tuple, ia_str_str, ia_str_seq, ia_list_int, ia_list_bool, ia_list_list, ia_list_tuple, ia_list_str, ia_list_seq, ia_tuple_int, ia_tuple_bool, ia_tuple_list, ia_tuple_tuple, ia_tuple_str, ia_tuple_seq, mLst_ap, mTup_ap, mYes_ap, sizeLine_v, shaped_int, eqv_int, shaped_bool, eqv_bool, shaped_none, shaped_nilT, shaped_nilL, frz, frzAll, peek, res1, resAll, stoAll, argOf, argsOf, bors, wback, outAt, outsFrom, ownsStay, retv, wipeF, unwipe, sto, isNone, tyD, cY, cMul, cMod, cDiv, cPow, Cell.dat, b2n, frzS, frzL, fzV, atI, ixN, fMulL, pairB]
  | .tuple (_ :: _ :: _ :: _), _ => simp [Bis_pair, mVar_ap, mLit_ap, m2_ap, mB_ap, mAndT_ap, mOrT_ap, mNotT_ap, mAndV_ap, mOrV_ap, mNotV_ap, mIfE_ap, mNil_ap, mCons_ap, mDisp_ap, gSet_ap, gsNil_ap, gsCons_ap, gTupD_ap, mSet_ap, mAsg_ap, mPar_ap, mExpr_ap, mRet_ap, mRetN_ap, mNext_ap, mBreak_ap, mCont_ap, mSeq_ap, mIf_ap, iSeq_ap, iRan_ap, iRan2_ap, iEnm_ap, iZp_ap, mFor_ap, mWhile_ap, mCall_ap, mkD_ap, mLc_ap, fI_ap, fAdd_ap, fSub_ap, fMul_ap, fMod_ap, fDiv_ap, fPow_ap, fLt_ap, fLe_ap, fGt_ap, fGe_ap, fIsN_ap, fNotN_ap, fIsB_ap, fIx_ap, fAddX_ap, fSubX_ap, fMulX_ap, m1_ap, fNeg_ap, mB1_ap, fLen_ap, fAbs_ap, fInt_ap, fMin2_ap, fMax2_ap, fList_ap, fTuple_ap, fStr_ap, mMt_ap, mMtZ_ap, fAppend_ap, fInsert_ap, fExtend_ap, fPopAt_ap, mChain_ap, oNone_ap, oSome_ap, mSl_ap, gIx_ap, fInX_ap, fNotInX_ap, mIsi_ap, fEqX_ap, fNeX_ap, fAll_ap, fAny_ap, fSum_ap, fSorted_ap, fBest_ap, fIdx_ap, fRepr_ap, mPermA_ap, fBack_ap, gSplice_ap, mSortSet_ap, fMulY_ap, mTupRan_ap, mFz_ap, mGh_ap, fIsX_ap, mGhO_ap, ia_none_int, ia_none_bool, ia_none_list, ia_none_tuple, ia_none_str, ia_none_seq, ia_bool_int, ia_bool_bool, ia_bool_list, ia_bool_tuple, ia_bool_str, ia_bool_seq, ia_int_int, ia_int_bool, ia_int_list, ia_int_tuple, ia_int_str, ia_int_seq, ia_str_int, ia_str_bool, ia_str_list, ia_str_tuple, ia_str_str, ia_str_seq, ia_list_int, ia_list_bool, ia_list_list, ia_list_tuple, ia_list_str, ia_list_seq, ia_tuple_int, ia_tuple_bool, ia_tuple_list, ia_tuple_tuple, ia_tuple_str, ia_tuple_seq, mLst_ap, mTup_ap, mYes_ap, sizeLine_v, shaped_int, eqv_int, shaped_bool, eqv_bool, shaped_none, shaped_nilT, shaped_nilL, frz, frzAll, peek, res1, resAll, stoAll, argOf, argsOf, bors, wback, outAt, outsFrom, ownsStay, retv, wipeF, unwipe, sto, isNone, tyD, cY, cMul, cMod, cDiv, cPow, Cell.dat, b2n, frzS, frzL, fzV, atI, ixN, fMulL, pairB]; omega
/-- what is inside -/
def Pl2 (d : PyData) : Prop := plainD d = true ∧ (∀ ds, d = .tuple ds → ∀ x ∈ ds, plainD x = true) ∧ ∀ ds, d = .list ds → ∀ x ∈ ds, plainD x = true
def ivB : PyData → Bool
  | .tuple [.int a, .int b] => decide (a ≤ b)
  | _ => false
def SpIv (D : Dm) : Prop := ∀ d : PyData, Pl2 d → D [.dat d] = some (.dat (.bool (ivB d)), [.dat d])
theorem sp_iv {P N : Dm} (hP : SpPair P) (hN : SpNum N) : SpIv (Bis_interval P N) := by
  intro d hd
  have h1 := hP d hd.1
  match d, hd, h1 with
  | .none, hd, h1 => simp [Bis_interval, mVar_ap, mLit_ap, m2_ap, mB_ap, mAndT_ap, mOrT_ap, mNotT_ap, mAndV_ap, mOrV_ap, mNotV_ap, mIfE_ap, mNil_ap, mCons_ap, mDisp_ap, gSet_ap, gsNil_ap, gsCons_ap, gTupD_ap, mSet_ap, mAsg_ap, mPar_ap, mExpr_ap, mRet_ap, mRetN_ap, mNext_ap, mBreak_ap, mCont_ap, mSeq_ap, mIf_ap, iSeq_ap, iRan_ap, iRan2_ap, iEnm_ap, iZp_ap, mFor_ap, mWhile_ap, mCall_ap, mkD_ap, mLc_ap, fI_ap, fAdd_ap, fSub_ap, fMul_ap, fMod_ap, fDiv_ap, fPow_ap, fLt_ap, fLe_ap, fGt_ap, fGe_ap, fIsN_ap, fNotN_ap, fIsB_ap, fIx_ap, fAddX_ap, fSubX_ap, fMulX_ap, m1_ap, fNeg_ap, mB1_ap, fLen_ap, fAbs_ap, fInt_ap, fMin2_ap, fMax2_ap, fList_ap, fTuple_ap, fStr_ap, mMt_ap, mMtZ_ap, fAppend_ap, fInsert_ap, fExtend_ap, fPopAt_ap, mChain_ap, oNone_ap, oSome_ap, mSl_ap, gIx_ap, fInX_ap, fNotInX_ap, mIsi_ap, fEqX_ap, fNeX_ap, fAll_ap, fAny_ap, fSum_ap, fSorted_ap, fBest_ap, fIdx_ap, fRepr_ap, mPermA_ap, fBack_ap, gSplice_ap, mSortSet_ap, fMulY_ap, mTupRan_ap, mFz_ap, mGh_ap, fIsX_ap, mGhO_ap, ia_none_int, ia_none_bool, ia_none_list, ia_none_tuple, ia_none_str, ia_none_seq, ia_bool_int, ia_bool_bool, ia_bool_list, ia_bool_tuple, ia_bool_str, ia_bool_seq, ia_int_int, ia_int_bool, ia_int_list, ia_int_tuple, ia_int_str, ia_int_seq, ia_str_int, ia_str_bool, ia_str_list, ia_str_tuple, ia_str_str, ia_str_seq, ia_list_int, ia_list_bool, ia_list_list, ia_list_tuple, ia_list_str, ia_list_seq, ia_tuple_int, ia_tuple_bool, ia_tuple_list, ia_tuple_tuple, ia_tuple_str, ia_tuple_seq, mLst_ap, mTup_ap, mYes_ap, sizeLine_v, shaped_int, eqv_int, shaped_bool, eqv_bool, shaped_none, shaped_nilT, shaped_nilL, frz, frzAll, peek, res1, resAll, stoAll, argOf, argsOf, bors, wback, outAt, outsFrom, ownsStay, retv, wipeF, unwipe, sto, isNone, tyD, cY, cMul, cMod, cDiv, cPow, Cell.dat, b2n, frzS, frzL, fzV, atI, ixN, fMulL, h1, pairB, ivB]
  | .bool _, hd, h1 => simp [Bis_interval, mVar_ap, mLit_ap, m2_ap, mB_ap, mAndT_ap, mOrT_ap, mNotT_ap, mAndV_ap, mOrV_ap, mNotV_ap, mIfE_ap, mNil_ap, mCons_ap, mDisp_ap, gSet_ap, gsNil_ap, gsCons_ap, gTupD_ap, mSet_ap, mAsg_ap, mPar_ap, mExpr_ap, mRet_ap, mRetN_ap, mNext_ap, mBreak_ap, mCont_ap, mSeq_ap, mIf_ap, iSeq_ap, iRan_ap, iRan2_ap, iEnm_ap, iZp_ap, mFor_ap, mWhile_ap, mCall_ap, mkD_ap, mLc_ap, fI_ap, fAdd_ap, fSub_ap, fMul_ap, fMod_ap, fDiv_ap, fPow_ap, fLt_ap, fLe_ap, fGt_ap, fGe_ap, fIsN_ap, fNotN_ap, fIsB_ap, fIx_ap, fAddX_ap, fSubX_ap, fMulX_ap, m1_ap, fNeg_ap, mB1_ap, fLen_ap, fAbs_ap, fInt_ap, fMin2_ap, fMax2_ap, fList_ap, fTuple_ap, fStr_ap, mMt_ap, mMtZ_ap, fAppend_ap, fInsert_ap, fExtend_ap, fPopAt_ap, mChain_ap, oNone_ap, oSome_ap, mSl_ap, gIx_ap, fInX_ap, fNotInX_ap, mIsi_ap, fEqX_ap, fNeX_ap, fAll_ap, fAny_ap, fSum_ap, fSorted_ap, fBest_ap, fIdx_ap, fRepr_ap, mPermA_ap, fBack_ap, gSplice_ap, mSortSet_ap, fMulY_ap, mTupRan_ap, mFz_ap, mGh_ap, fIsX_ap, mGhO_ap, ia_none_int, ia_none_bool, ia_none_list, ia_none_tuple, ia_none_str, ia_none_seq, ia_bool_int, ia_bool_bool, ia_bool_list, ia_bool_tuple, ia_bool_str, ia_bool_seq, ia_int_int, ia_int_bool, ia_int_list, ia_int_tuple, ia_int_str, ia_int_seq, ia_str_int, ia_str_bool, ia_str_list, ia_str_tuple, ia_str_str, ia_str_seq, ia_list_int, ia_list_bool, ia_list_list, ia_list_tuple, ia_list_str, ia_list_seq, ia_tuple_int, ia_tuple_bool, ia_tuple_list, ia_tuple_tuple, ia_tuple_str, ia_tuple_seq, mLst_ap, mTup_ap, mYes_ap, sizeLine_v, shaped_int, eqv_int, shaped_bool, eqv_bool, shaped_none, shaped_nilT, shaped_nilL, frz, frzAll, peek, res1, resAll, stoAll, argOf, argsOf, bors, wback, outAt, outsFrom, ownsStay, retv, wipeF, unwipe, sto, isNone, tyD, cY, cMul, cMod, cDiv, cPow, Cell.dat, b2n, frzS, frzL, fzV, atI, ixN, fMulL, h1, pairB, ivB]
  | .int _, hd, h1 => simp [Bis_interval, mVar_ap, mLit_ap, m2_ap, mB_ap, mAndT_ap, mOrT_ap, mNotT_ap, mAndV_ap, mOrV_ap, mNotV_ap, mIfE_ap, mNil_ap, mCons_ap, mDisp_ap, gSet_ap, gsNil_ap, gsCons_ap, gTupD_ap, mSet_ap, mAsg_ap, mPar_ap, mExpr_ap, mRet_ap, mRetN_ap, mNext_ap, mBreak_ap, mCont_ap, mSeq_ap, mIf_ap, iSeq_ap, iRan_ap, iRan2_ap, iEnm_ap, iZp_ap, mFor_ap, mWhile_ap, mCall_ap, mkD_ap, mLc_ap, fI_ap, fAdd_ap, fSub_ap, fMul_ap, fMod_ap, fDiv_ap, fPow_ap, fLt_ap, fLe_ap, fGt_ap, fGe_ap, fIsN_ap, fNotN_ap, fIsB_ap, fIx_ap, fAddX_ap, fSubX_ap, fMulX_ap, m1_ap, fNeg_ap, mB1_ap, fLen_ap, fAbs_ap, fInt_ap, fMin2_ap, fMax2_ap, fList_ap, fTuple_ap, fStr_ap, mMt_ap, mMtZ_ap, fAppend_ap, fInsert_ap, fExtend_ap, fPopAt_ap, mChain_ap, oNone_ap, oSome_ap, mSl_ap, gIx_ap, fInX_ap, fNotInX_ap, mIsi_ap, fEqX_ap, fNeX_ap, fAll_ap, fAny_ap, fSum_ap, fSorted_ap, fBest_ap, fIdx_ap, fRepr_ap, mPermA_ap, fBack_ap, gSplice_ap, mSortSet_ap, fMulY_ap, mTupRan_ap, mFz_ap, mGh_ap, fIsX_ap, mGhO_ap, ia_none_int, ia_none_bool, ia_none_list, ia_none_tuple, ia_none_str, ia_none_seq, ia_bool_int, ia_bool_bool, ia_bool_list, ia_bool_tuple, ia_bool_str, ia_bool_seq, ia_int_int, ia_int_bool, ia_int_list, ia_int_tuple, ia_int_str, ia_int_seq, ia_str_int, ia_str_bool, ia_str_list, ia_str_tuple, ia_str_str, ia_str_seq, ia_list_int, ia_list_bool, ia_list_list, ia_list_tuple, ia_list_str, ia_list_seq, ia_tuple_int, ia_tuple_bool, ia_tuple_list, ia_tuple_tuple, ia_tuple_str, ia_tuple_seq, mLst_ap, mTup_ap, mYes_ap, sizeLine_v, shaped_int, eqv_int, shaped_bool, eqv_bool, shaped_none, shaped_nilT, shaped_nilL, frz, frzAll, peek, res1, resAll, stoAll, argOf, argsOf, bors, wback, outAt, outsFrom, ownsStay, retv, wipeF, unwipe, sto, isNone, tyD, cY, cMul, cMod, cDiv, cPow, Cell.dat, b2n, frzS, frzL, fzV, atI, ixN, fMulL, h1, pairB, ivB]
  | .str _, hd, h1 => simp [Bis_interval, mVar_ap, mLit_ap, m2_ap, mB_ap, mAndT_ap, mOrT_ap, mNotT_ap, mAndV_ap, mOrV_ap, mNotV_ap, mIfE_ap, mNil_ap, mCons_ap, mDisp_ap, gSet_ap, gsNil_ap, gsCons_ap, gTupD_ap, mSet_ap, mAsg_ap, mPar_ap, mExpr_ap, mRet_ap, mRetN_ap, mNext_ap, mBreak_ap, mCont_ap, mSeq_ap, mIf_ap, iSeq_ap, iRan_ap, iRan2_ap, iEnm_ap, iZp_ap, mFor_ap, mWhile_ap, mCall_ap, mkD_ap, mLc_ap, fI_ap, fAdd_ap, fSub_ap, fMul_ap, fMod_ap, fDiv_ap, fPow_ap, fLt_ap, fLe_ap, fGt_ap, fGe_ap, fIsN_ap, fNotN_ap, fIsB_ap, fIx_ap, fAddX_ap, fSubX_ap, fMulX_ap, m1_ap, fNeg_ap, mB1_ap, fLen_ap, fAbs_ap, fInt_ap, fMin2_ap, fMax2_ap, fList_ap, fTuple_ap, fStr_ap, mMt_ap, mMtZ_ap, fAppend_ap, fInsert_ap, fExtend_ap, fPopAt_ap, mChain_ap, oNone_ap, oSome_ap, mSl_ap, gIx_ap, fInX_ap, fNotInX_ap, mIsi_ap, fEqX_ap, fNeX_ap, fAll_ap, fAny_ap, fSum_ap, fSorted_ap, fBest_ap, fIdx_ap, fRepr_ap, mPermA_ap, fBack_ap, gSplice_ap, mSortSet_ap, fMulY_ap, mTupRan_ap, mFz_ap, mGh_ap, fIsX_ap, mGhO_ap, ia_none_int, ia_none_bool, ia_none_list, ia_none_tuple, ia_none_str, ia_none_seq, ia_bool_int, ia_bool_bool, ia_bool_list, ia_bool_tuple, ia_bool_str, ia_bool_seq, ia_int_int, ia_int_bool, ia_int_list, ia_int_tuple, ia_int_str, ia_int_seq, ia_str_int, ia_str_bool, ia_str_list, ia_str_tuple, ia_str_str, ia_str_seq, ia_list_int, ia_list_bool, ia_list_list, ia_list_tuple, ia_list_str, ia_list_seq, ia_tuple_int, ia_tuple_bool, ia_tuple_list, ia_tuple_tuple, ia_tuple_str, ia_tuple_seq, mLst_ap, mTup_ap, mYes_ap, sizeLine_v, shaped_int, eqv_int, shaped_bool, eqv_bool, shaped_none, shaped_nilT, shaped_nilL, frz, frzAll, peek, res1, resAll, stoAll, argOf, argsOf, bors, wback, outAt, outsFrom, ownsStay, retv, wipeF, unwipe, sto, isNone, tyD, cY, cMul, cMod, cDiv, cPow, Cell.dat, b2n, frzS, frzL, fzV, atI, ixN, fMulL, h1, pairB, ivB]
  | .list _, hd, h1 => simp [Bis_interval, mVar_ap, mLit_ap, m2_ap, mB_ap, mAndT_ap, mOrT_ap, mNotT_ap, mAndV_ap, mOrV_ap, mNotV_ap, mIfE_ap, mNil_ap, mCons_ap, mDisp_ap, gSet_ap, gsNil_ap, gsCons_ap, gTupD_ap, mSet_ap, mAsg_ap, mPar_ap, mExpr_ap, mRet_ap, mRetN_ap, mNext_ap, mBreak_ap, mCont_ap, mSeq_ap, mIf_ap, iSeq_ap, iRan_ap, iRan2_ap, iEnm_ap, iZp_ap, mFor_ap, mWhile_ap, mCall_ap, mkD_ap, mLc_ap, fI_ap, fAdd_ap, fSub_ap, fMul_ap, fMod_ap, fDiv_ap, fPow_ap, fLt_ap, fLe_ap, fGt_ap, fGe_ap, fIsN_ap, fNotN_ap, fIsB_ap, fIx_ap, fAddX_ap, fSubX_ap, fMulX_ap, m1_ap, fNeg_ap, mB1_ap, fLen_ap, fAbs_ap, fInt_ap, fMin2_ap, fMax2_ap, fList_ap, fTuple_ap, fStr_ap, mMt_ap, mMtZ_ap, fAppend_ap, fInsert_ap, fExtend_ap, fPopAt_ap, mChain_ap, oNone_ap, oSome_ap, mSl_ap, gIx_ap, fInX_ap, fNotInX_ap, mIsi_ap, fEqX_ap, fNeX_ap, fAll_ap, fAny_ap, fSum_ap, fSorted_ap, fBest_ap, fIdx_ap, fRepr_ap, mPermA_ap, fBack_ap, gSplice_ap, mSortSet_ap, fMulY_ap, mTupRan_ap, mFz_ap, mGh_ap, fIsX_ap, mGhO_ap, ia_none_int, ia_none_bool, ia_none_list, ia_none_tuple, ia_none_str, ia_none_seq, ia_bool_int, ia_bool_bool, ia_bool_list, ia_bool_tuple, ia_bool_str, ia_bool_seq, ia_int_int, ia_int_bool, ia_int_list, ia_int_tuple, ia_int_str, ia_int_seq, ia_str_int, ia_str_bool, ia_str_list, ia_str_tuple, ia_str_str, ia_str_seq, ia_list_int, ia_list_bool, ia_list_list, ia_list_tuple, ia_list_str, ia_list_seq, ia_tuple_int, ia_tuple_bool, ia_tuple_list, ia_tuple_tuple, ia_tuple_str, ia_tuple_seq, mLst_ap, mTup_ap, mYes_ap, sizeLine_v, shaped_int, eqv_int, shaped_bool, eqv_bool, shaped_none, shaped_nilT, shaped_nilL, frz, frzAll, peek, res1, resAll, stoAll, argOf, argsOf, bors, wback, outAt, outsFrom, ownsStay, retv, wipeF, unwipe, sto, isNone, tyD, cY, cMul, cMod, cDiv, cPow, Cell.dat, b2n, frzS, frzL, fzV, atI, ixN, fMulL, h1, pairB, ivB]
  | .tuple [], hd, h1 => simp [Bis_interval, mVar_ap, mLit_ap, m2_ap, mB_ap, mAndT_ap, mOrT_ap, mNotT_ap, mAndV_ap, mOrV_ap, mNotV_ap, mIfE_ap, mNil_ap, mCons_ap, mDisp_ap, gSet_ap, gsNil_ap, gsCons_ap, gTupD_ap, mSet_ap, mAsg_ap, mPar_ap, mExpr_ap, mRet_ap, mRetN_ap, mNext_ap, mBreak_ap, mCont_ap, mSeq_ap, mIf_ap, iSeq_ap, iRan_ap, iRan2_ap, iEnm_ap, iZp_ap, mFor_ap, mWhile_ap, mCall_ap, mkD_ap, mLc_ap, fI_ap, fAdd_ap, fSub_ap, fMul_ap, fMod_ap, fDiv_ap, fPow_ap, fLt_ap, fLe_ap, fGt_ap, fGe_ap, fIsN_ap, fNotN_ap, fIsB_ap, fIx_ap, fAddX_ap, fSubX_ap, fMulX_ap, m1_ap, fNeg_ap, mB1_ap, fLen_ap, fAbs_ap, fInt_ap, fMin2_ap, fMax2_ap, fList_ap, fTuple_ap, fStr_ap, mMt_ap, mMtZ_ap, fAppend_ap, fInsert_ap, fExtend_ap, fPopAt_ap, mChain_ap, oNone_ap, oSome_ap, mSl_ap, gIx_ap, fInX_ap, fNotInX_ap, mIsi_ap, fEqX_ap, fNeX_ap, fAll_ap, fAny_ap, fSum_ap, fSorted_ap, fBest_ap, fIdx_ap, fRepr_ap, mPermA_ap, fBack_ap, gSplice_ap, mSortSet_ap, fMulY_ap, mTupRan_ap, mFz_ap, mGh_ap, fIsX_ap, mGhO_ap, ia_none_int, ia_none_bool, ia_none_list, ia_none_tuple, ia_none_str, ia_none_seq, ia_bool_int, ia_bool_bool, ia_bool_list, ia_bool_tuple, ia_bool_str, ia_bool_seq, ia_int_int, ia_int_bool, ia_int_list, ia_int_tuple, ia_int_str, ia_int_seq, ia_str_int, ia_str_bool, ia_str_list, ia_str_tuple, ia_str_str, ia_str_seq, ia_list_int, ia_list_bool, ia_list_list, ia_list_tuple, ia_list_str, ia_list_seq, ia_tuple_int, ia_tuple_bool, ia_tuple_list, ia_tuple_tuple, ia_tuple_str, ia_tuple_seq, mLst_ap, mTup_ap, mYes_ap, sizeLine_v, shaped_int, eqv_int, shaped_bool, eqv_bool, shaped_none, shaped_nilT, shaped_nilL, frz, frzAll, peek, res1, resAll, stoAll, argOf, argsOf, bors, wback, outAt, outsFrom, ownsStay, retv, wipeF, unwipe, sto, isNone, tyD, cY, cMul, cMod, cDiv, cPow, Cell.dat, b2n, frzS, frzL, fzV, atI, ixN, fMulL, h1, pairB, ivB]
  | .tuple [_], hd, h1 => simp [Bis_interval, mVar_ap, mLit_ap, m2_ap, mB_ap, mAndT_ap, mOrT_ap, mNotT_ap, mAndV_ap, mOrV_ap, mNotV_ap, mIfE_ap, mNil_ap, mCons_ap, mDisp_ap, gSet_ap, gsNil_ap, gsCons_ap, gTupD_ap, mSet_ap, mAsg_ap, mPar_ap, mExpr_ap, mRet_ap, mRetN_ap, mNext_ap, mBreak_ap, mCont_ap, mSeq_ap, mIf_ap, iSeq_ap, iRan_ap, iRan2_ap, iEnm_ap, iZp_ap, mFor_ap, mWhile_ap, mCall_ap, mkD_ap, mLc_ap, fI_ap, fAdd_ap, fSub_ap, fMul_ap, fMod_ap, fDiv_ap, fPow_ap, fLt_ap, fLe_ap, fGt_ap, fGe_ap, fIsN_ap, fNotN_ap, fIsB_ap, fIx_ap, fAddX_ap, fSubX_ap, fMulX_ap, m1_ap, fNeg_ap, mB1_ap, fLen_ap, fAbs_ap, fInt_ap, fMin2_ap, fMax2_ap, fList_ap, fTuple_ap, fStr_ap, mMt_ap, mMtZ_ap, fAppend_ap, fInsert_ap, fExtend_ap, fPopAt_ap, mChain_ap, oNone_ap, oSome_ap, mSl_ap, gIx_ap, fInX_ap, fNotInX_ap, mIsi_ap, fEqX_ap, fNeX_ap, fAll_ap, fAny_ap, fSum_ap, fSorted_ap, fBest_ap, fIdx_ap, fRepr_ap, mPermA_ap, fBack_ap, gSplice_ap, mSortSet_ap, fMulY_ap, mTupRan_ap, mFz_ap, mGh_ap, fIsX_ap, mGhO_ap, ia_none_int, ia_none_bool, ia_none_list, ia_none_tuple, ia_none_str, ia_none_seq, ia_bool_int, ia_bool_bool, ia_bool_list, ia_bool_tuple, ia_bool_str, ia_bool_seq, ia_int_int, ia_int_bool, ia_int_list, ia_int_tuple, ia_int_str, ia_int_seq, ia_str_int, ia_str_bool, ia_str_list, ia_str_tuple, ia_str_str, ia_str_seq, ia_list_int, ia_list_bool, ia_list_list, ia_list_tuple, ia_list_str, ia_list_seq, ia_tuple_int, ia_tuple_bool, ia_tuple_list, ia_tuple_tuple, ia_tuple_str, ia_tuple_seq, mLst_ap, mTup_ap, mYes_ap, sizeLine_v, shaped_int, eqv_int, shaped_bool, eqv_bool, shaped_none, shaped_nilT, shaped_nilL, frz, frzAll, peek, res1, resAll, stoAll, argOf, argsOf, bors, wback, outAt, outsFrom, ownsStay, retv, wipeF, unwipe, sto, isNone, tyD, cY, cMul, cMod, cDiv, cPow, Cell.dat, b2n, frzS, frzL, fzV, atI, ixN, fMulL, h1, pairB, ivB]
  | .tuple (_ :: _ :: _ :: _), hd, h1 => simp [Bis_interval, mVar_ap, mLit_ap, m2_ap, mB_ap, mAndT_ap, mOrT_ap, mNotT_ap, mAndV_ap, mOrV_ap, mNotV_ap, mIfE_ap, mNil_ap, mCons_ap, mDisp_ap, gSet_ap, gsNil_ap, gsCons_ap, gTupD_ap, mSet_ap, mAsg_ap, mPar_ap, mExpr_ap, mRet_ap, mRetN_ap, mNext_ap, mBreak_ap, mCont_ap, mSeq_ap, mIf_ap, iSeq_ap, iRan_ap, iRan2_ap, iEnm_ap, iZp_ap, mFor_ap, mWhile_ap, mCall_ap, mkD_ap, mLc_ap, fI_ap, fAdd_ap, fSub_ap, fMul_ap, fMod_ap, fDiv_ap, fPow_ap, fLt_ap, fLe_ap, fGt_ap, fGe_ap, fIsN_ap, fNotN_ap, fIsB_ap, fIx_ap, fAddX_ap, fSubX_ap, fMulX_ap, m1_ap, fNeg_ap, mB1_ap, fLen_ap, fAbs_ap, fInt_ap, fMin2_ap, fMax2_ap, fList_ap, fTuple_ap, fStr_ap, mMt_ap, mMtZ_ap, fAppend_ap, fInsert_ap, fExtend_ap, fPopAt_ap, mChain_ap, oNone_ap, oSome_ap, mSl_ap, gIx_ap, fInX_ap, fNotInX_ap, mIsi_ap, fEqX_ap, fNeX_ap, fAll_ap, fAny_ap, fSum_ap, fSorted_ap, fBest_ap, fIdx_ap, fRepr_ap, mPermA_ap, fBack_ap, gSplice_ap, mSortSet_ap, fMulY_ap, mTupRan_ap, mFz_ap, mGh_ap, fIsX_ap, mGhO_ap, ia_none_int, ia_none_bool, ia_none_list, ia_none_tuple, ia_none_str, ia_none_seq, ia_bool_int, ia_bool_bool, ia_bool_list, ia_bool_tuple, ia_bool_str, ia_bool_seq, ia_int_int, ia_int_bool, ia_int_list, ia_int_tuple, ia_int_str, ia_int_seq, ia_str_int, ia_str_bool, ia_str_list, ia_str_tuple, ia_str_str, ia_str_seq, ia_list_int, ia_list_bool, ia_list_list, ia_list_tuple, ia_list_str, ia_list_seq, ia_tuple_int, ia_tuple_bool, ia_tuple_list, ia_tuple_tuple, ia_tuple_str, ia_tuple_seq, mLst_ap, mTup_ap, mYes_ap, sizeLine_v, shaped_int, eqv_int, shaped_bool, eqv_bool, shaped_none, shaped_nilT, shaped_nilL, frz, frzAll, peek, res1, resAll, stoAll, argOf, argsOf, bors, wback, outAt, outsFrom, ownsStay, retv, wipeF, unwipe, sto, isNone, tyD, cY, cMul, cMod, cDiv, cPow, Cell.dat, b2n, frzS, frzL, fzV, atI, ixN, fMulL, h1, pairB, ivB]
  | .tuple [x, y], hd, h1 =>
    have hx := hN x (hd.2.1 _ rfl x (by simp))
    have hy := hN y (hd.2.1 _ rfl y (by simp))
    simp [Bis_interval, mVar_ap, mLit_ap, m2_ap, mB_ap, mAndT_ap, mOrT_ap, mNotT_ap, mAndV_ap, mOrV_ap, mNotV_ap, mIfE_ap, mNil_ap, mCons_ap, mDisp_ap, gSet_ap, gsNil_ap, gsCons_ap, gTupD_ap, mSet_ap, mAsg_ap, mPar_ap, mExpr_ap, mRet_ap, mRetN_ap, mNext_ap, mBreak_ap, mCont_ap, mSeq_ap, mIf_ap, iSeq_ap, iRan_ap, iRan2_ap, iEnm_ap, iZp_ap, mFor_ap, mWhile_ap, mCall_ap, mkD_ap, mLc_ap, fI_ap, fAdd_ap, fSub_ap, fMul_ap, fMod_ap, fDiv_ap, fPow_ap, fLt_ap, fLe_ap, fGt_ap, fGe_ap, fIsN_ap, fNotN_ap, fIsB_ap, fIx_ap, fAddX_ap, fSubX_ap, fMulX_ap, m1_ap, fNeg_ap, mB1_ap, fLen_ap, fAbs_ap, fInt_ap, fMin2_ap, fMax2_ap, fList_ap, fTuple_ap, fStr_ap, mMt_ap, mMtZ_ap, fAppend_ap, fInsert_ap, fExtend_ap, fPopAt_ap, mChain_ap, oNone_ap, oSome_ap, mSl_ap, gIx_ap, fInX_ap, fNotInX_ap, mIsi_ap, fEqX_ap, fNeX_ap, fAll_ap, fAny_ap, fSum_ap, fSorted_ap, fBest_ap, fIdx_ap, fRepr_ap, mPermA_ap, fBack_ap, gSplice_ap, mSortSet_ap, fMulY_ap, mTupRan_ap, mFz_ap, mGh_ap, fIsX_ap, mGhO_ap, ia_none_int, ia_none_bool, ia_none_list, ia_none_tuple, ia_none_str, ia_none_seq, ia_bool_int, ia_bool_bool, ia_bool_list, ia_bool_tuple, ia_bool_str, ia_bool_seq, ia_int_int, ia_int_bool, ia_int_list, ia_int_tuple, ia_int_str, ia_int_seq, ia_str_int, ia_str_bool, ia_str_list, ia_str_tuple, ia_str_str, ia_str_seq, ia_list_int, ia_list_bool, ia_list_list, ia_list_tuple, ia_list_str, ia_list_seq, ia_tuple_int, ia_tuple_bool, ia_tuple_list, ia_tuple_tuple, ia_tuple_str, ia_tuple_seq, mLst_ap, mTup_ap, mYes_ap, sizeLine_v, shaped_int, eqv_int, shaped_bool, eqv_bool, shaped_none, shaped_nilT, shaped_nilL, frz, frzAll, peek, res1, resAll, stoAll, argOf, argsOf, bors, wback, outAt, outsFrom, ownsStay, retv, wipeF, unwipe, sto, isNone, tyD, cY, cMul, cMod, cDiv, cPow, Cell.dat, b2n, frzS, frzL, fzV, atI, ixN, fMulL, h1, pairB, hx]
    cases x <;> simp [numB, ivB, mVar_ap, mLit_ap, m2_ap, mB_ap, mAndT_ap, mOrT_ap, mNotT_ap, mAndV_ap, mOrV_ap, mNotV_ap, mIfE_ap, mNil_ap, mCons_ap, mDisp_ap, gSet_ap, gsNil_ap, gsCons_ap, gTupD_ap, mSet_ap, mAsg_ap, mPar_ap, mExpr_ap, mRet_ap, mRetN_ap, mNext_ap, mBreak_ap, mCont_ap, mSeq_ap, mIf_ap, iSeq_ap, iRan_ap, iRan2_ap, iEnm_ap, iZp_ap, mFor_ap, mWhile_ap, mCall_ap, mkD_ap, mLc_ap, fI_ap, fAdd_ap, fSub_ap, fMul_ap, fMod_ap, fDiv_ap, fPow_ap, fLt_ap, fLe_ap, fGt_ap, fGe_ap, fIsN_ap, fNotN_ap, fIsB_ap, fIx_ap, fAddX_ap, fSubX_ap, fMulX_ap, m1_ap, fNeg_ap, mB1_ap, fLen_ap, fAbs_ap, fInt_ap, fMin2_ap, fMax2_ap, fList_ap, fTuple_ap, fStr_ap, mMt_ap, mMtZ_ap, fAppend_ap, fInsert_ap, fExtend_ap, fPopAt_ap, mChain_ap, oNone_ap, oSome_ap, mSl_ap, gIx_ap, fInX_ap, fNotInX_ap, mIsi_ap, fEqX_ap, fNeX_ap, fAll_ap, fAny_ap, fSum_ap, fSorted_ap, fBest_ap, fIdx_ap, fRepr_ap, mPermA_ap, fBack_ap, gSplice_ap, mSortSet_ap, fMulY_ap, mTupRan_ap, mFz_ap, mGh_ap, fIsX_ap, mGhO_ap, ia_none_int, ia_none_bool, ia_none_list, ia_none_tuple, ia_none_str, ia_none_seq, ia_bool_int, ia_bool_bool, ia_bool_list, ia_bool_tuple, ia_bool_str, ia_bool_seq, ia_int_int, ia_int_bool, ia_int_list, ia_int_tuple, ia_int_str, ia_int_seq, ia_str_int, ia_str_bool, ia_str_list, ia_str_tuple, ia_str_str, ia_str_seq, ia_list_int, ia_list_bool, ia_list_list, ia_list_tuple, ia_list_str, ia_list_seq, ia_tuple_int, ia_tuple_bool, ia_tuple_list, ia_tuple_tuple, ia_tuple_str, ia_tuple_seq, mLst_ap, mTup_ap, mYes_ap, sizeLine_v, shaped_int, eqv_int, shaped_bool, eqv_bool, shaped_none, shaped_nilT, shaped_nilL, frz, frzAll, peek, res1, resAll, stoAll, argOf, argsOf, bors, wback, outAt, outsFrom, ownsStay, retv, wipeF, unwipe, sto, isNone, tyD, cY, cMul, cMod, cDiv, cPow, Cell.dat, b2n, frzS, frzL, fzV, atI, ixN, fMulL]
    simp [hy]
    cases y <;> simp [numB, ivB, mVar_ap, mLit_ap, m2_ap, mB_ap, mAndT_ap, mOrT_ap, mNotT_ap, mAndV_ap, mOrV_ap, mNotV_ap, mIfE_ap, mNil_ap, mCons_ap, mDisp_ap, gSet_ap, gsNil_ap, gsCons_ap, gTupD_ap, mSet_ap, mAsg_ap, mPar_ap, mExpr_ap, mRet_ap, mRetN_ap, mNext_ap, mBreak_ap, mCont_ap, mSeq_ap, mIf_ap, iSeq_ap, iRan_ap, iRan2_ap, iEnm_ap, iZp_ap, mFor_ap, mWhile_ap, mCall_ap, mkD_ap, mLc_ap, fI_ap, fAdd_ap, fSub_ap, fMul_ap, fMod_ap, fDiv_ap, fPow_ap, fLt_ap, fLe_ap, fGt_ap, fGe_ap, fIsN_ap, fNotN_ap, fIsB_ap, fIx_ap, fAddX_ap, fSubX_ap, fMulX_ap, m1_ap, fNeg_ap, mB1_ap, fLen_ap, fAbs_ap, fInt_ap, fMin2_ap, fMax2_ap, fList_ap, fTuple_ap, fStr_ap, mMt_ap, mMtZ_ap, fAppend_ap, fInsert_ap, fExtend_ap, fPopAt_ap, mChain_ap, oNone_ap, oSome_ap, mSl_ap, gIx_ap, fInX_ap, fNotInX_ap, mIsi_ap, fEqX_ap, fNeX_ap, fAll_ap, fAny_ap, fSum_ap, fSorted_ap, fBest_ap, fIdx_ap, fRepr_ap, mPermA_ap, fBack_ap, gSplice_ap, mSortSet_ap, fMulY_ap, mTupRan_ap, mFz_ap, mGh_ap, fIsX_ap, mGhO_ap, ia_none_int, ia_none_bool, ia_none_list, ia_none_tuple, ia_none_str, ia_none_seq, ia_bool_int, ia_bool_bool, ia_bool_list, ia_bool_tuple, ia_bool_str, ia_bool_seq, ia_int_int, ia_int_bool, ia_int_list, ia_int_tuple, ia_int_str, ia_int_seq, ia_str_int, ia_str_bool, ia_str_list, ia_str_tuple, ia_str_str, ia_str_seq, ia_list_int, ia_list_bool, ia_list_list, ia_list_tuple, ia_list_str, ia_list_seq, ia_tuple_int, ia_tuple_bool, ia_tuple_list, ia_tuple_tuple, ia_tuple_str, ia_tuple_seq, mLst_ap, mTup_ap, mYes_ap, sizeLine_v, shaped_int, eqv_int, shaped_bool, eqv_bool, shaped_none, shaped_nilT, shaped_nilL, frz, frzAll, peek, res1, resAll, stoAll, argOf, argsOf, bors, wback, outAt, outsFrom, ownsStay, retv, wipeF, unwipe, sto, isNone, tyD, cY, cMul, cMod, cDiv, cPow, Cell.dat, b2n, frzS, frzL, fzV, atI, ixN, fMulL]
/-! the shortage of an interval -/
def Shop.inR (S : Shop) (lo hi : Int) : List (Int × Int) := S.ranges.filter fun p => decide (lo ≤ p.1) && decide (p.2 ≤ hi)
def Shop.inS (S : Shop) (lo hi : Int) : List Int := S.sizes.filter fun x => decide (lo ≤ x) && decide (x ≤ hi)
def Shop.lack (S : Shop) (lo hi : Int) : Int := ((S.inR lo hi).length : Int) - ((S.inS lo hi).length : Int)
def SpLack (D : Dm) : Prop := ∀ (b : Bool) (S : Shop) (lo hi : Int), S.sizes.length ≤ 1000 → S.ranges.length ≤ 1000 → D [.dat (shopD b S), .dat (.int lo), .dat (.int hi)] = some (.dat (.int (S.lack lo hi)), [.dat (shopD b S), .dat (.int lo), .dat (.int hi)])
theorem sp_lack : SpLack Bshortage := by
  intro b S lo hi h1 h2
  have e1 : ∀ p : Int × Int, atI (match b with | true => [PyData.int p.1, .int p.2] | false => [.int p.1, .int p.2]) 0 = some (.int p.1) := fun p => by cases b <;> rfl
  cases b
  all_goals
    simp [Bshortage, mVar_ap, mLit_ap, m2_ap, mB_ap, mAndT_ap, mOrT_ap, mNotT_ap, mAndV_ap, mOrV_ap, mNotV_ap, mIfE_ap, mNil_ap, mCons_ap, mDisp_ap, gSet_ap, gsNil_ap, gsCons_ap, gTupD_ap, mSet_ap, mAsg_ap, mPar_ap, mExpr_ap, mRet_ap, mRetN_ap, mNext_ap, mBreak_ap, mCont_ap, mSeq_ap, mIf_ap, iSeq_ap, iRan_ap, iRan2_ap, iEnm_ap, iZp_ap, mFor_ap, mWhile_ap, mCall_ap, mkD_ap, fI_ap, fAdd_ap, fSub_ap, fMul_ap, fMod_ap, fDiv_ap, fPow_ap, fLt_ap, fLe_ap, fGt_ap, fGe_ap, fIsN_ap, fNotN_ap, fIsB_ap, fIx_ap, fAddX_ap, fSubX_ap, fMulX_ap, m1_ap, fNeg_ap, mB1_ap, fLen_ap, fAbs_ap, fInt_ap, fMin2_ap, fMax2_ap, fList_ap, fTuple_ap, fStr_ap, mMt_ap, mMtZ_ap, fAppend_ap, fInsert_ap, fExtend_ap, fPopAt_ap, mChain_ap, oNone_ap, oSome_ap, mSl_ap, gIx_ap, fInX_ap, fNotInX_ap, mIsi_ap, fEqX_ap, fNeX_ap, fAll_ap, fAny_ap, fSum_ap, fSorted_ap, fBest_ap, fIdx_ap, fRepr_ap, mPermA_ap, fBack_ap, gSplice_ap, mSortSet_ap, fMulY_ap, mTupRan_ap, mFz_ap, mGh_ap, fIsX_ap, mGhO_ap, ia_none_int, ia_none_bool, ia_none_list, ia_none_tuple, ia_none_str, ia_none_seq, ia_bool_int, ia_bool_bool, ia_bool_list, ia_bool_tuple, ia_bool_str, ia_bool_seq, ia_int_int, ia_int_bool, ia_int_list, ia_int_tuple, ia_int_str, ia_int_seq, ia_str_int, ia_str_bool, ia_str_list, ia_str_tuple, ia_str_str, ia_str_seq, ia_list_int, ia_list_bool, ia_list_list, ia_list_tuple, ia_list_str, ia_list_seq, ia_tuple_int, ia_tuple_bool, ia_tuple_list, ia_tuple_tuple, ia_tuple_str, ia_tuple_seq, mLst_ap, mTup_ap, mYes_ap, sizeLine_v, shaped_int, eqv_int, shaped_bool, eqv_bool, shaped_none, shaped_nilT, shaped_nilL, frz, frzAll, peek, res1, resAll, stoAll, argOf, argsOf, bors, wback, outAt, outsFrom, ownsStay, retv, wipeF, unwipe, sto, isNone, tyD, cY, cMul, cMod, cDiv, cPow, Cell.dat, b2n, frzS, frzL, fzV, atI, ixN, fMulL, shopD, sq]
    rw [lc_pure (pairD _) (fun p => decide (lo ≤ p.1) && decide (p.2 ≤ hi)) (pairD _) S.ranges]
    case hmi => rfl
    case hn => simp
    case hw => rfl
    case hu => rfl
    case hl => omega
    case h => exact fun p _ => ⟨_, rfl, by by_cases c1 : lo ≤ p.1 <;> simp [mVar_ap, mLit_ap, m2_ap, mB_ap, mAndT_ap, mOrT_ap, mNotT_ap, mAndV_ap, mOrV_ap, mNotV_ap, mIfE_ap, mNil_ap, mCons_ap, mDisp_ap, gSet_ap, gsNil_ap, gsCons_ap, gTupD_ap, mSet_ap, mAsg_ap, mPar_ap, mExpr_ap, mRet_ap, mRetN_ap, mNext_ap, mBreak_ap, mCont_ap, mSeq_ap, mIf_ap, iSeq_ap, iRan_ap, iRan2_ap, iEnm_ap, iZp_ap, mFor_ap, mWhile_ap, mCall_ap, mkD_ap, fI_ap, fAdd_ap, fSub_ap, fMul_ap, fMod_ap, fDiv_ap, fPow_ap, fLt_ap, fLe_ap, fGt_ap, fGe_ap, fIsN_ap, fNotN_ap, fIsB_ap, fIx_ap, fAddX_ap, fSubX_ap, fMulX_ap, m1_ap, fNeg_ap, mB1_ap, fLen_ap, fAbs_ap, fInt_ap, fMin2_ap, fMax2_ap, fList_ap, fTuple_ap, fStr_ap, mMt_ap, mMtZ_ap, fAppend_ap, fInsert_ap, fExtend_ap, fPopAt_ap, mChain_ap, oNone_ap, oSome_ap, mSl_ap, gIx_ap, fInX_ap, fNotInX_ap, mIsi_ap, fEqX_ap, fNeX_ap, fAll_ap, fAny_ap, fSum_ap, fSorted_ap, fBest_ap, fIdx_ap, fRepr_ap, mPermA_ap, fBack_ap, gSplice_ap, mSortSet_ap, fMulY_ap, mTupRan_ap, mFz_ap, mGh_ap, fIsX_ap, mGhO_ap, ia_none_int, ia_none_bool, ia_none_list, ia_none_tuple, ia_none_str, ia_none_seq, ia_bool_int, ia_bool_bool, ia_bool_list, ia_bool_tuple, ia_bool_str, ia_bool_seq, ia_int_int, ia_int_bool, ia_int_list, ia_int_tuple, ia_int_str, ia_int_seq, ia_str_int, ia_str_bool, ia_str_list, ia_str_tuple, ia_str_str, ia_str_seq, ia_list_int, ia_list_bool, ia_list_list, ia_list_tuple, ia_list_str, ia_list_seq, ia_tuple_int, ia_tuple_bool, ia_tuple_list, ia_tuple_tuple, ia_tuple_str, ia_tuple_seq, mLst_ap, mTup_ap, mYes_ap, sizeLine_v, shaped_int, eqv_int, shaped_bool, eqv_bool, shaped_none, shaped_nilT, shaped_nilL, frz, frzAll, peek, res1, resAll, stoAll, argOf, argsOf, bors, wback, outAt, outsFrom, ownsStay, retv, wipeF, unwipe, sto, isNone, tyD, cY, cMul, cMod, cDiv, cPow, Cell.dat, b2n, frzS, frzL, fzV, atI, ixN, fMulL, pairD, sq, c1], fun _ => ⟨_, rfl, rfl⟩, rfl⟩
    simp [mVar_ap, mLit_ap, m2_ap, mB_ap, mAndT_ap, mOrT_ap, mNotT_ap, mAndV_ap, mOrV_ap, mNotV_ap, mIfE_ap, mNil_ap, mCons_ap, mDisp_ap, gSet_ap, gsNil_ap, gsCons_ap, gTupD_ap, mSet_ap, mAsg_ap, mPar_ap, mExpr_ap, mRet_ap, mRetN_ap, mNext_ap, mBreak_ap, mCont_ap, mSeq_ap, mIf_ap, iSeq_ap, iRan_ap, iRan2_ap, iEnm_ap, iZp_ap, mFor_ap, mWhile_ap, mCall_ap, mkD_ap, fI_ap, fAdd_ap, fSub_ap, fMul_ap, fMod_ap, fDiv_ap, fPow_ap, fLt_ap, fLe_ap, fGt_ap, fGe_ap, fIsN_ap, fNotN_ap, fIsB_ap, fIx_ap, fAddX_ap, fSubX_ap, fMulX_ap, m1_ap, fNeg_ap, mB1_ap, fLen_ap, fAbs_ap, fInt_ap, fMin2_ap, fMax2_ap, fList_ap, fTuple_ap, fStr_ap, mMt_ap, mMtZ_ap, fAppend_ap, fInsert_ap, fExtend_ap, fPopAt_ap, mChain_ap, oNone_ap, oSome_ap, mSl_ap, gIx_ap, fInX_ap, fNotInX_ap, mIsi_ap, fEqX_ap, fNeX_ap, fAll_ap, fAny_ap, fSum_ap, fSorted_ap, fBest_ap, fIdx_ap, fRepr_ap, mPermA_ap, fBack_ap, gSplice_ap, mSortSet_ap, fMulY_ap, mTupRan_ap, mFz_ap, mGh_ap, fIsX_ap, mGhO_ap, ia_none_int, ia_none_bool, ia_none_list, ia_none_tuple, ia_none_str, ia_none_seq, ia_bool_int, ia_bool_bool, ia_bool_list, ia_bool_tuple, ia_bool_str, ia_bool_seq, ia_int_int, ia_int_bool, ia_int_list, ia_int_tuple, ia_int_str, ia_int_seq, ia_str_int, ia_str_bool, ia_str_list, ia_str_tuple, ia_str_str, ia_str_seq, ia_list_int, ia_list_bool, ia_list_list, ia_list_tuple, ia_list_str, ia_list_seq, ia_tuple_int, ia_tuple_bool, ia_tuple_list, ia_tuple_tuple, ia_tuple_str, ia_tuple_seq, mLst_ap, mTup_ap, mYes_ap, sizeLine_v, shaped_int, eqv_int, shaped_bool, eqv_bool, shaped_none, shaped_nilT, shaped_nilL, frz, frzAll, peek, res1, resAll, stoAll, argOf, argsOf, bors, wback, outAt, outsFrom, ownsStay, retv, wipeF, unwipe, sto, isNone, tyD, cY, cMul, cMod, cDiv, cPow, Cell.dat, b2n, frzS, frzL, fzV, atI, ixN, fMulL]
    rw [lc_pure PyData.int (fun x => decide (lo ≤ x) && decide (x ≤ hi)) PyData.int S.sizes]
    case hmi => rfl
    case hn => simp
    case hw => rfl
    case hu => rfl
    case hl => omega
    case h => exact fun x _ => ⟨_, rfl, by by_cases c1 : lo ≤ x <;> simp [mVar_ap, mLit_ap, m2_ap, mB_ap, mAndT_ap, mOrT_ap, mNotT_ap, mAndV_ap, mOrV_ap, mNotV_ap, mIfE_ap, mNil_ap, mCons_ap, mDisp_ap, gSet_ap, gsNil_ap, gsCons_ap, gTupD_ap, mSet_ap, mAsg_ap, mPar_ap, mExpr_ap, mRet_ap, mRetN_ap, mNext_ap, mBreak_ap, mCont_ap, mSeq_ap, mIf_ap, iSeq_ap, iRan_ap, iRan2_ap, iEnm_ap, iZp_ap, mFor_ap, mWhile_ap, mCall_ap, mkD_ap, fI_ap, fAdd_ap, fSub_ap, fMul_ap, fMod_ap, fDiv_ap, fPow_ap, fLt_ap, fLe_ap, fGt_ap, fGe_ap, fIsN_ap, fNotN_ap, fIsB_ap, fIx_ap, fAddX_ap, fSubX_ap, fMulX_ap, m1_ap, fNeg_ap, mB1_ap, fLen_ap, fAbs_ap, fInt_ap, fMin2_ap, fMax2_ap, fList_ap, fTuple_ap, fStr_ap, mMt_ap, mMtZ_ap, fAppend_ap, fInsert_ap, fExtend_ap, fPopAt_ap, mChain_ap, oNone_ap, oSome_ap, mSl_ap, gIx_ap, fInX_ap, fNotInX_ap, mIsi_ap, fEqX_ap, fNeX_ap, fAll_ap, fAny_ap, fSum_ap, fSorted_ap, fBest_ap, fIdx_ap, fRepr_ap, mPermA_ap, fBack_ap, gSplice_ap, mSortSet_ap, fMulY_ap, mTupRan_ap, mFz_ap, mGh_ap, fIsX_ap, mGhO_ap, ia_none_int, ia_none_bool, ia_none_list, ia_none_tuple, ia_none_str, ia_none_seq, ia_bool_int, ia_bool_bool, ia_bool_list, ia_bool_tuple, ia_bool_str, ia_bool_seq, ia_int_int, ia_int_bool, ia_int_list, ia_int_tuple, ia_int_str, ia_int_seq, ia_str_int, ia_str_bool, ia_str_list, ia_str_tuple, ia_str_str, ia_str_seq, ia_list_int, ia_list_bool, ia_list_list, ia_list_tuple, ia_list_str, ia_list_seq, ia_tuple_int, ia_tuple_bool, ia_tuple_list, ia_tuple_tuple, ia_tuple_str, ia_tuple_seq, mLst_ap, mTup_ap, mYes_ap, sizeLine_v, shaped_int, eqv_int, shaped_bool, eqv_bool, shaped_none, shaped_nilT, shaped_nilL, frz, frzAll, peek, res1, resAll, stoAll, argOf, argsOf, bors, wback, outAt, outsFrom, ownsStay, retv, wipeF, unwipe, sto, isNone, tyD, cY, cMul, cMod, cDiv, cPow, Cell.dat, b2n, frzS, frzL, fzV, atI, ixN, fMulL, c1], fun _ => ⟨_, rfl, rfl⟩, rfl⟩
    simp [mVar_ap, mLit_ap, m2_ap, mB_ap, mAndT_ap, mOrT_ap, mNotT_ap, mAndV_ap, mOrV_ap, mNotV_ap, mIfE_ap, mNil_ap, mCons_ap, mDisp_ap, gSet_ap, gsNil_ap, gsCons_ap, gTupD_ap, mSet_ap, mAsg_ap, mPar_ap, mExpr_ap, mRet_ap, mRetN_ap, mNext_ap, mBreak_ap, mCont_ap, mSeq_ap, mIf_ap, iSeq_ap, iRan_ap, iRan2_ap, iEnm_ap, iZp_ap, mFor_ap, mWhile_ap, mCall_ap, mkD_ap, fI_ap, fAdd_ap, fSub_ap, fMul_ap, fMod_ap, fDiv_ap, fPow_ap, fLt_ap, fLe_ap, fGt_ap, fGe_ap, fIsN_ap, fNotN_ap, fIsB_ap, fIx_ap, fAddX_ap, fSubX_ap, fMulX_ap, m1_ap, fNeg_ap, mB1_ap, fLen_ap, fAbs_ap, fInt_ap, fMin2_ap, fMax2_ap, fList_ap, fTuple_ap, fStr_ap, mMt_ap, mMtZ_ap, fAppend_ap, fInsert_ap, fExtend_ap, fPopAt_ap, mChain_ap, oNone_ap, oSome_ap, mSl_ap, gIx_ap, fInX_ap, fNotInX_ap, mIsi_ap, fEqX_ap, fNeX_ap, fAll_ap, fAny_ap, fSum_ap, fSorted_ap, fBest_ap, fIdx_ap, fRepr_ap, mPermA_ap, fBack_ap, gSplice_ap, mSortSet_ap, fMulY_ap, mTupRan_ap, mFz_ap, mGh_ap, fIsX_ap, mGhO_ap, ia_none_int, ia_none_bool, ia_none_list, ia_none_tuple, ia_none_str, ia_none_seq, ia_bool_int, ia_bool_bool, ia_bool_list, ia_bool_tuple, ia_bool_str, ia_bool_seq, ia_int_int, ia_int_bool, ia_int_list, ia_int_tuple, ia_int_str, ia_int_seq, ia_str_int, ia_str_bool, ia_str_list, ia_str_tuple, ia_str_str, ia_str_seq, ia_list_int, ia_list_bool, ia_list_list, ia_list_tuple, ia_list_str, ia_list_seq, ia_tuple_int, ia_tuple_bool, ia_tuple_list, ia_tuple_tuple, ia_tuple_str, ia_tuple_seq, mLst_ap, mTup_ap, mYes_ap, sizeLine_v, shaped_int, eqv_int, shaped_bool, eqv_bool, shaped_none, shaped_nilT, shaped_nilL, frz, frzAll, peek, res1, resAll, stoAll, argOf, argsOf, bors, wback, outAt, outsFrom, ownsStay, retv, wipeF, unwipe, sto, isNone, tyD, cY, cMul, cMod, cDiv, cPow, Cell.dat, b2n, frzS, frzL, fzV, atI, ixN, fMulL, Shop.lack, Shop.inR, Shop.inS]
/-! a shop is small -/
theorem ok_shop {M N l : Nat} {S : Shop} (ok : ShopOk M N S) (hM : M ≤ l) (hN : N ≤ l) (hl : 2 ≤ l := by omega) : Ok l (10 ^ 9) 3 (dShop S) := by
  refine ⟨by simpa using hl, fun x m => ?_⟩
  simp only [List.mem_cons, List.not_mem_nil, or_false] at m
  rcases m with rfl | rfl
  · refine ⟨by rw [List.length_map]; have := ok.sN; omega, fun y my => ?_⟩
    obtain ⟨i, hi, rfl⟩ := List.mem_map.1 my
    have := ok.sb i hi
    show i.natAbs < _
    omega
  · refine ⟨by rw [List.length_map]; have := ok.rM; omega, fun y my => ?_⟩
    obtain ⟨p, hp, rfl⟩ := List.mem_map.1 my
    have := ok.rb p hp
    refine ⟨by simpa using hl, fun z mz => ?_⟩
    simp only [List.mem_cons, List.not_mem_nil, or_false] at mz
    rcases mz with rfl | rfl
    · show p.1.natAbs < _; omega
    · show p.2.natAbs < _; omega
end Rf

/-! Sp6: some ranges made small or equal; overfull intervals. -/
namespace Rf
open PySem PySem.Spec PyProof.Rows L2
def SpTight (D : Dm) : Prop := ∀ (C : Int) (M N : Nat) (s : S0) (S : Shop), Bx C s → C + 50 ≤ BC → ShopOk M N S → M ≤ 1000 → N ≤ 1000 → Ev D [s, .dat (dShop S)] fun r outs => ∃ S' s', r = .dat (dShop S') ∧ outs = [s', .dat (dShop S)] ∧ Bx (C + 30) s' ∧ ShopOk M N S' ∧ S'.sizes = S.sizes ∧ S'.ranges.length = S.ranges.length
theorem tight_gen {Tk P : Dm} {K : Int} (hK : 0 < K) (hK8 : K ≤ 8) (hT : SpTake Tk) (hP : SpPick P) {D : Dm} (hD : D = mkD 2 6 [0, 1]
    (mSeq (mSet 2 (mB1 fList (mCons (m2 fIx (mVar 1) (mLit (.int 1))) mNil)))
    (mSeq (mFor (iRan (mCons (mCall Tk (mFz (mCons (mVar 0) (mCons (mLit (.int K)) mNil)))) mNil)) (gSet 3) (mSeq (mGh [4, 5] (mPar [4, 5] (mCons (mCall Tk (mFz (mCons (mVar 0) (mCons (mB1 fLen (mCons (mVar 2) mNil)) mNil)))) (mCons (mCall P (mFz (mCons (mVar 0) (mCons (m2 fIx (mVar 1) (mLit (.int 0))) mNil)))) mNil))))
    (mAsg (gIx 2 (mVar 4)) (mCall P (mFz (mCons (mVar 0) (mCons (mLst (mCons (m2 fIx (mVar 2) (mLit (.int 0))) (mCons (mTup (mCons (mVar 5) (mCons (mVar 5) mNil))) (mCons (mTup (mCons (mVar 5) (mCons (m2 fAddX (mVar 5) (mLit (.int 1))) mNil))) (mCons (m2 fIx (mVar 2) (m1 fNeg (mLit (.int 1)))) mNil))))) mNil)))))))
    (mRet (mTup (mCons (m2 fIx (mVar 1) (mLit (.int 0))) (mCons (mB1 fTuple (mCons (mVar 2) mNil)) mNil))))))) : SpTight D := by
  intro C M N s S hs hC ok hM hN
  subst hD
  have hC' : C + 50 ≤ 100000000 := hC
  obtain ⟨t, s1, a1, a2, a3, a4⟩ := hT _ K s hs (by show _ ≤ (100000000 : Int); omega) hK (by omega)
  obtain ⟨q, rfl⟩ := hs.own
  obtain ⟨q1, rfl⟩ := a3.own
  have w1 : -4611686018427387904 ≤ t := by omega
  have w2 : t < 4611686018427387904 := by omega
  have r0 : 0 < S.ranges.length := List.length_pos_iff.2 ok.r0
  refine mkD_wp rfl (wp_nx (by simp [mVar_ap, mLit_ap, m2_ap, mB_ap, mAndT_ap, mOrT_ap, mNotT_ap, mAndV_ap, mOrV_ap, mNotV_ap, mIfE_ap, mNil_ap, mCons_ap, mDisp_ap, gSet_ap, gsNil_ap, gsCons_ap, gTupD_ap, mSet_ap, mAsg_ap, mPar_ap, mExpr_ap, mRet_ap, mRetN_ap, mNext_ap, mBreak_ap, mCont_ap, mSeq_ap, mIf_ap, iSeq_ap, iRan_ap, iRan2_ap, iEnm_ap, iZp_ap, mFor_ap, mWhile_ap, mCall_ap, mkD_ap, fI_ap, fAdd_ap, fSub_ap, fMul_ap, fMod_ap, fDiv_ap, fPow_ap, fLt_ap, fLe_ap, fGt_ap, fGe_ap, fIsN_ap, fNotN_ap, fIsB_ap, fIx_ap, fAddX_ap, fSubX_ap, fMulX_ap, m1_ap, fNeg_ap, mB1_ap, fLen_ap, fAbs_ap, fInt_ap, fMin2_ap, fMax2_ap, fList_ap, fTuple_ap, fStr_ap, mMt_ap, mMtZ_ap, fAppend_ap, fInsert_ap, fExtend_ap, fPopAt_ap, mChain_ap, oNone_ap, oSome_ap, mSl_ap, gIx_ap, fInX_ap, fNotInX_ap, mIsi_ap, fEqX_ap, fNeX_ap, fAll_ap, fAny_ap, fSum_ap, fSorted_ap, fBest_ap, fIdx_ap, fRepr_ap, mPermA_ap, fBack_ap, gSplice_ap, mSortSet_ap, fMulY_ap, mTupRan_ap, mFz_ap, mGh_ap, fIsX_ap, mGhO_ap, ia_none_int, ia_none_bool, ia_none_list, ia_none_tuple, ia_none_str, ia_none_seq, ia_bool_int, ia_bool_bool, ia_bool_list, ia_bool_tuple, ia_bool_str, ia_bool_seq, ia_int_int, ia_int_bool, ia_int_list, ia_int_tuple, ia_int_str, ia_int_seq, ia_str_int, ia_str_bool, ia_str_list, ia_str_tuple, ia_str_str, ia_str_seq, ia_list_int, ia_list_bool, ia_list_list, ia_list_tuple, ia_list_str, ia_list_seq, ia_tuple_int, ia_tuple_bool, ia_tuple_list, ia_tuple_tuple, ia_tuple_str, ia_tuple_seq, mLst_ap, mTup_ap, mYes_ap, sizeLine_v, shaped_int, eqv_int, shaped_bool, eqv_bool, shaped_none, shaped_nilT, shaped_nilL, frz, frzAll, peek, res1, resAll, stoAll, argOf, argsOf, bors, wback, outAt, outsFrom, ownsStay, retv, wipeF, unwipe, sto, isNone, tyD, cY, cMul, cMod, cDiv, cPow, Cell.dat, b2n, frzS, frzL, fzV, atI, ixN, fMulL, dShop]; (try first | rfl | exact ⟨rfl, rfl⟩ | exact ⟨rfl, rfl, rfl⟩ | exact ⟨rfl, rfl, rfl, rfl⟩ | exact ⟨rfl, rfl, rfl, rfl, rfl⟩)) (wp_seq (wp_for (fun k fm => ∃ s x3 x4 x5 rs, fm = [some s, some (.dat (dShop S)), some (.own (.lst (List.map dPair rs))), x3, x4, x5] ∧ Bx (C + 1 + 3 * k) s ∧ rs.length = S.ranges.length ∧ ∀ p ∈ rs, 1 ≤ p.1 ∧ p.1 ≤ p.2 ∧ p.2 ≤ 200000001) (by simp [mVar_ap, mLit_ap, m2_ap, mB_ap, mAndT_ap, mOrT_ap, mNotT_ap, mAndV_ap, mOrV_ap, mNotV_ap, mIfE_ap, mNil_ap, mCons_ap, mDisp_ap, gSet_ap, gsNil_ap, gsCons_ap, gTupD_ap, mSet_ap, mAsg_ap, mPar_ap, mExpr_ap, mRet_ap, mRetN_ap, mNext_ap, mBreak_ap, mCont_ap, mSeq_ap, mIf_ap, iSeq_ap, iRan_ap, iRan2_ap, iEnm_ap, iZp_ap, mFor_ap, mWhile_ap, mCall_ap, mkD_ap, fI_ap, fAdd_ap, fSub_ap, fMul_ap, fMod_ap, fDiv_ap, fPow_ap, fLt_ap, fLe_ap, fGt_ap, fGe_ap, fIsN_ap, fNotN_ap, fIsB_ap, fIx_ap, fAddX_ap, fSubX_ap, fMulX_ap, m1_ap, fNeg_ap, mB1_ap, fLen_ap, fAbs_ap, fInt_ap, fMin2_ap, fMax2_ap, fList_ap, fTuple_ap, fStr_ap, mMt_ap, mMtZ_ap, fAppend_ap, fInsert_ap, fExtend_ap, fPopAt_ap, mChain_ap, oNone_ap, oSome_ap, mSl_ap, gIx_ap, fInX_ap, fNotInX_ap, mIsi_ap, fEqX_ap, fNeX_ap, fAll_ap, fAny_ap, fSum_ap, fSorted_ap, fBest_ap, fIdx_ap, fRepr_ap, mPermA_ap, fBack_ap, gSplice_ap, mSortSet_ap, fMulY_ap, mTupRan_ap, mFz_ap, mGh_ap, fIsX_ap, mGhO_ap, ia_none_int, ia_none_bool, ia_none_list, ia_none_tuple, ia_none_str, ia_none_seq, ia_bool_int, ia_bool_bool, ia_bool_list, ia_bool_tuple, ia_bool_str, ia_bool_seq, ia_int_int, ia_int_bool, ia_int_list, ia_int_tuple, ia_int_str, ia_int_seq, ia_str_int, ia_str_bool, ia_str_list, ia_str_tuple, ia_str_str, ia_str_seq, ia_list_int, ia_list_bool, ia_list_list, ia_list_tuple, ia_list_str, ia_list_seq, ia_tuple_int, ia_tuple_bool, ia_tuple_list, ia_tuple_tuple, ia_tuple_str, ia_tuple_seq, mLst_ap, mTup_ap, mYes_ap, sizeLine_v, shaped_int, eqv_int, shaped_bool, eqv_bool, shaped_none, shaped_nilT, shaped_nilL, frz, frzAll, peek, res1, resAll, stoAll, argOf, argsOf, bors, wback, outAt, outsFrom, ownsStay, retv, wipeF, unwipe, sto, isNone, tyD, cY, cMul, cMod, cDiv, cPow, Cell.dat, b2n, frzS, frzL, fzV, atI, ixN, fMulL, a4, w1, w2]; (try first | rfl | exact ⟨rfl, rfl⟩ | exact ⟨rfl, rfl, rfl⟩ | exact ⟨rfl, rfl, rfl, rfl⟩ | exact ⟨rfl, rfl, rfl, rfl, rfl⟩)) ⟨_, _, _, _, S.ranges, by simp [dShop]; (try first | rfl | exact ⟨rfl, rfl⟩ | exact ⟨rfl, rfl, rfl⟩ | exact ⟨rfl, rfl, rfl, rfl⟩ | exact ⟨rfl, rfl, rfl, rfl, rfl⟩), a3.mono (by omega), rfl, ok.rb⟩ ?_ ?_)))
  · intro j d m fm i
    obtain ⟨rfl, hj⟩ := ints_get m
    obtain ⟨s, x3, x4, x5, rs, rfl, i1, i2, i3⟩ := i
    obtain ⟨mi, s2, b1, b2, b3, b4⟩ := hT _ (rs.length : Nat) s i1 (by show _ ≤ (100000000 : Int); omega) (by omega) (by have := ok.rM; omega)
    obtain ⟨g, s3, hg, c1, c2⟩ := hP _ s2 (.dat (.tuple (dI S.sizes))) (dI S.sizes) (.inr (.inr rfl)) b3 (by show _ ≤ (100000000 : Int); omega) (by rw [List.length_map]; exact List.length_pos_iff.2 ok.s0) (by rw [List.length_map]; have := ok.sN; omega)
    obtain ⟨g, hg2, rfl⟩ := List.mem_map.1 hg
    have gb := ok.sb g hg2
    have h0 : 0 < rs.length := by omega
    have hl : rs.length - 1 < rs.length := by omega
    obtain ⟨z, s4, hz, d1, d2⟩ := hP _ s3 (.dat (.list [dPair rs[0], dPair (g, g), dPair (g, g + 1), dPair rs[rs.length - 1]])) [dPair rs[0], dPair (g, g), dPair (g, g + 1), dPair rs[rs.length - 1]] (.inr (.inl rfl)) c1 (by show _ ≤ (100000000 : Int); omega) (by simp) (by simp)
    obtain ⟨z, rfl, hz1⟩ : ∃ z' : Int × Int, z = dPair z' ∧ 1 ≤ z'.1 ∧ z'.1 ≤ z'.2 ∧ z'.2 ≤ 200000001 := by
      simp only [List.mem_cons, List.not_mem_nil, or_false] at hz
      rcases hz with rfl | rfl | rfl | rfl
      · exact ⟨_, rfl, i3 _ (List.getElem_mem h0)⟩
      · exact ⟨_, rfl, by dsimp only; omega, by dsimp only; omega, by dsimp only; omega⟩
      · exact ⟨_, rfl, by dsimp only; omega, by dsimp only; omega, by dsimp only; omega⟩
      · exact ⟨_, rfl, i3 _ (List.getElem_mem hl)⟩
    obtain ⟨q2, rfl⟩ := i1.own
    obtain ⟨q3, rfl⟩ := b3.own
    obtain ⟨q4, rfl⟩ := c1.own
    obtain ⟨q5, rfl⟩ := d1.own
    have hmi : mi.toNat < rs.length := by omega
    have e0 : atI (List.map dPair rs) 0 = some (dPair rs[0]) := by simp [atI, ixN, h0]
    have e1 : atI (List.map dPair rs) (-1) = some (dPair rs[rs.length - 1]) := by
      have x2 : (1 : Int) ≤ rs.length := by omega
      have x3 : (-1 + (rs.length : Int)).toNat = rs.length - 1 := by omega
      simp [atI, ixN, x2, x3, hl]
    have e2 : ixN rs.length mi = some mi.toNat := by simp [ixN, b1, b2]
    have e3 : dPair (g, g) = .tuple [.int g, .int g] := rfl
    have e4 : dPair (g, g + 1) = .tuple [.int g, .int (g + 1)] := rfl
    rw [e3, e4] at d2
    refine ⟨_, rfl, wp_gh (by simp [mVar_ap, mLit_ap, m2_ap, mB_ap, mAndT_ap, mOrT_ap, mNotT_ap, mAndV_ap, mOrV_ap, mNotV_ap, mIfE_ap, mNil_ap, mCons_ap, mDisp_ap, gSet_ap, gsNil_ap, gsCons_ap, gTupD_ap, mSet_ap, mAsg_ap, mPar_ap, mExpr_ap, mRet_ap, mRetN_ap, mNext_ap, mBreak_ap, mCont_ap, mSeq_ap, mIf_ap, iSeq_ap, iRan_ap, iRan2_ap, iEnm_ap, iZp_ap, mFor_ap, mWhile_ap, mCall_ap, mkD_ap, fI_ap, fAdd_ap, fSub_ap, fMul_ap, fMod_ap, fDiv_ap, fPow_ap, fLt_ap, fLe_ap, fGt_ap, fGe_ap, fIsN_ap, fNotN_ap, fIsB_ap, fIx_ap, fAddX_ap, fSubX_ap, fMulX_ap, m1_ap, fNeg_ap, mB1_ap, fLen_ap, fAbs_ap, fInt_ap, fMin2_ap, fMax2_ap, fList_ap, fTuple_ap, fStr_ap, mMt_ap, mMtZ_ap, fAppend_ap, fInsert_ap, fExtend_ap, fPopAt_ap, mChain_ap, oNone_ap, oSome_ap, mSl_ap, gIx_ap, fInX_ap, fNotInX_ap, mIsi_ap, fEqX_ap, fNeX_ap, fAll_ap, fAny_ap, fSum_ap, fSorted_ap, fBest_ap, fIdx_ap, fRepr_ap, mPermA_ap, fBack_ap, gSplice_ap, mSortSet_ap, fMulY_ap, mTupRan_ap, mFz_ap, mGh_ap, fIsX_ap, mGhO_ap, ia_none_int, ia_none_bool, ia_none_list, ia_none_tuple, ia_none_str, ia_none_seq, ia_bool_int, ia_bool_bool, ia_bool_list, ia_bool_tuple, ia_bool_str, ia_bool_seq, ia_int_int, ia_int_bool, ia_int_list, ia_int_tuple, ia_int_str, ia_int_seq, ia_str_int, ia_str_bool, ia_str_list, ia_str_tuple, ia_str_str, ia_str_seq, ia_list_int, ia_list_bool, ia_list_list, ia_list_tuple, ia_list_str, ia_list_seq, ia_tuple_int, ia_tuple_bool, ia_tuple_list, ia_tuple_tuple, ia_tuple_str, ia_tuple_seq, mLst_ap, mTup_ap, mYes_ap, sizeLine_v, shaped_int, eqv_int, shaped_bool, eqv_bool, shaped_none, shaped_nilT, shaped_nilL, frz, frzAll, peek, res1, resAll, stoAll, argOf, argsOf, bors, wback, outAt, outsFrom, ownsStay, retv, wipeF, unwipe, sto, isNone, tyD, cY, cMul, cMod, cDiv, cPow, Cell.dat, b2n, frzS, frzL, fzV, fMulL, dShop, b4, c2, atI, ixN]; (try first | rfl | exact ⟨rfl, rfl⟩ | exact ⟨rfl, rfl, rfl⟩ | exact ⟨rfl, rfl, rfl, rfl⟩ | exact ⟨rfl, rfl, rfl, rfl, rfl⟩)) (wp_is (by simp [mVar_ap, mLit_ap, m2_ap, mB_ap, mAndT_ap, mOrT_ap, mNotT_ap, mAndV_ap, mOrV_ap, mNotV_ap, mIfE_ap, mNil_ap, mCons_ap, mDisp_ap, gSet_ap, gsNil_ap, gsCons_ap, gTupD_ap, mSet_ap, mAsg_ap, mPar_ap, mExpr_ap, mRet_ap, mRetN_ap, mNext_ap, mBreak_ap, mCont_ap, mSeq_ap, mIf_ap, iSeq_ap, iRan_ap, iRan2_ap, iEnm_ap, iZp_ap, mFor_ap, mWhile_ap, mCall_ap, mkD_ap, fI_ap, fAdd_ap, fSub_ap, fMul_ap, fMod_ap, fDiv_ap, fPow_ap, fLt_ap, fLe_ap, fGt_ap, fGe_ap, fIsN_ap, fNotN_ap, fIsB_ap, fIx_ap, fAddX_ap, fSubX_ap, fMulX_ap, m1_ap, fNeg_ap, mB1_ap, fLen_ap, fAbs_ap, fInt_ap, fMin2_ap, fMax2_ap, fList_ap, fTuple_ap, fStr_ap, mMt_ap, mMtZ_ap, fAppend_ap, fInsert_ap, fExtend_ap, fPopAt_ap, mChain_ap, oNone_ap, oSome_ap, mSl_ap, gIx_ap, fInX_ap, fNotInX_ap, mIsi_ap, fEqX_ap, fNeX_ap, fAll_ap, fAny_ap, fSum_ap, fSorted_ap, fBest_ap, fIdx_ap, fRepr_ap, mPermA_ap, fBack_ap, gSplice_ap, mSortSet_ap, fMulY_ap, mTupRan_ap, mFz_ap, mGh_ap, fIsX_ap, mGhO_ap, ia_none_int, ia_none_bool, ia_none_list, ia_none_tuple, ia_none_str, ia_none_seq, ia_bool_int, ia_bool_bool, ia_bool_list, ia_bool_tuple, ia_bool_str, ia_bool_seq, ia_int_int, ia_int_bool, ia_int_list, ia_int_tuple, ia_int_str, ia_int_seq, ia_str_int, ia_str_bool, ia_str_list, ia_str_tuple, ia_str_str, ia_str_seq, ia_list_int, ia_list_bool, ia_list_list, ia_list_tuple, ia_list_str, ia_list_seq, ia_tuple_int, ia_tuple_bool, ia_tuple_list, ia_tuple_tuple, ia_tuple_str, ia_tuple_seq, mLst_ap, mTup_ap, mYes_ap, sizeLine_v, shaped_int, eqv_int, shaped_bool, eqv_bool, shaped_none, shaped_nilT, shaped_nilL, frz, frzAll, peek, res1, resAll, stoAll, argOf, argsOf, bors, wback, outAt, outsFrom, ownsStay, retv, wipeF, unwipe, sto, isNone, tyD, cY, cMul, cMod, cDiv, cPow, Cell.dat, b2n, frzS, frzL, fzV, fMulL, d2, e0, e1, e2]; (try first | rfl | exact ⟨rfl, rfl⟩ | exact ⟨rfl, rfl, rfl⟩ | exact ⟨rfl, rfl, rfl, rfl⟩ | exact ⟨rfl, rfl, rfl, rfl, rfl⟩)) ⟨rfl, _, _, _, _, rs.set mi.toNat z, by rw [List.map_set]; rfl, d1.mono (by omega), by simp [i2], fun p m => ?_⟩)⟩
    rcases List.mem_or_eq_of_mem_set m with m | rfl
    · exact i3 p m
    · exact hz1
  · intro fm' i
    rw [ints_len] at i
    obtain ⟨s, x3, x4, x5, rs, rfl, i1, i2, i3⟩ := i
    refine ⟨rfl, wp_is (by simp [mVar_ap, mLit_ap, m2_ap, mB_ap, mAndT_ap, mOrT_ap, mNotT_ap, mAndV_ap, mOrV_ap, mNotV_ap, mIfE_ap, mNil_ap, mCons_ap, mDisp_ap, gSet_ap, gsNil_ap, gsCons_ap, gTupD_ap, mSet_ap, mAsg_ap, mPar_ap, mExpr_ap, mRet_ap, mRetN_ap, mNext_ap, mBreak_ap, mCont_ap, mSeq_ap, mIf_ap, iSeq_ap, iRan_ap, iRan2_ap, iEnm_ap, iZp_ap, mFor_ap, mWhile_ap, mCall_ap, mkD_ap, fI_ap, fAdd_ap, fSub_ap, fMul_ap, fMod_ap, fDiv_ap, fPow_ap, fLt_ap, fLe_ap, fGt_ap, fGe_ap, fIsN_ap, fNotN_ap, fIsB_ap, fIx_ap, fAddX_ap, fSubX_ap, fMulX_ap, m1_ap, fNeg_ap, mB1_ap, fLen_ap, fAbs_ap, fInt_ap, fMin2_ap, fMax2_ap, fList_ap, fTuple_ap, fStr_ap, mMt_ap, mMtZ_ap, fAppend_ap, fInsert_ap, fExtend_ap, fPopAt_ap, mChain_ap, oNone_ap, oSome_ap, mSl_ap, gIx_ap, fInX_ap, fNotInX_ap, mIsi_ap, fEqX_ap, fNeX_ap, fAll_ap, fAny_ap, fSum_ap, fSorted_ap, fBest_ap, fIdx_ap, fRepr_ap, mPermA_ap, fBack_ap, gSplice_ap, mSortSet_ap, fMulY_ap, mTupRan_ap, mFz_ap, mGh_ap, fIsX_ap, mGhO_ap, ia_none_int, ia_none_bool, ia_none_list, ia_none_tuple, ia_none_str, ia_none_seq, ia_bool_int, ia_bool_bool, ia_bool_list, ia_bool_tuple, ia_bool_str, ia_bool_seq, ia_int_int, ia_int_bool, ia_int_list, ia_int_tuple, ia_int_str, ia_int_seq, ia_str_int, ia_str_bool, ia_str_list, ia_str_tuple, ia_str_str, ia_str_seq, ia_list_int, ia_list_bool, ia_list_list, ia_list_tuple, ia_list_str, ia_list_seq, ia_tuple_int, ia_tuple_bool, ia_tuple_list, ia_tuple_tuple, ia_tuple_str, ia_tuple_seq, mLst_ap, mTup_ap, mYes_ap, sizeLine_v, shaped_int, eqv_int, shaped_bool, eqv_bool, shaped_none, shaped_nilT, shaped_nilL, frz, frzAll, peek, res1, resAll, stoAll, argOf, argsOf, bors, wback, outAt, outsFrom, ownsStay, retv, wipeF, unwipe, sto, isNone, tyD, cY, cMul, cMod, cDiv, cPow, Cell.dat, b2n, frzS, frzL, fzV, atI, ixN, fMulL, dShop]; (try first | rfl | exact ⟨rfl, rfl⟩ | exact ⟨rfl, rfl, rfl⟩ | exact ⟨rfl, rfl, rfl, rfl⟩ | exact ⟨rfl, rfl, rfl, rfl, rfl⟩)) ⟨_, _, _, _, rfl, rfl, by simp [mVar_ap, mLit_ap, m2_ap, mB_ap, mAndT_ap, mOrT_ap, mNotT_ap, mAndV_ap, mOrV_ap, mNotV_ap, mIfE_ap, mNil_ap, mCons_ap, mDisp_ap, gSet_ap, gsNil_ap, gsCons_ap, gTupD_ap, mSet_ap, mAsg_ap, mPar_ap, mExpr_ap, mRet_ap, mRetN_ap, mNext_ap, mBreak_ap, mCont_ap, mSeq_ap, mIf_ap, iSeq_ap, iRan_ap, iRan2_ap, iEnm_ap, iZp_ap, mFor_ap, mWhile_ap, mCall_ap, mkD_ap, fI_ap, fAdd_ap, fSub_ap, fMul_ap, fMod_ap, fDiv_ap, fPow_ap, fLt_ap, fLe_ap, fGt_ap, fGe_ap, fIsN_ap, fNotN_ap, fIsB_ap, fIx_ap, fAddX_ap, fSubX_ap, fMulX_ap, m1_ap, fNeg_ap, mB1_ap, fLen_ap, fAbs_ap, fInt_ap, fMin2_ap, fMax2_ap, fList_ap, fTuple_ap, fStr_ap, mMt_ap, mMtZ_ap, fAppend_ap, fInsert_ap, fExtend_ap, fPopAt_ap, mChain_ap, oNone_ap, oSome_ap, mSl_ap, gIx_ap, fInX_ap, fNotInX_ap, mIsi_ap, fEqX_ap, fNeX_ap, fAll_ap, fAny_ap, fSum_ap, fSorted_ap, fBest_ap, fIdx_ap, fRepr_ap, mPermA_ap, fBack_ap, gSplice_ap, mSortSet_ap, fMulY_ap, mTupRan_ap, mFz_ap, mGh_ap, fIsX_ap, mGhO_ap, ia_none_int, ia_none_bool, ia_none_list, ia_none_tuple, ia_none_str, ia_none_seq, ia_bool_int, ia_bool_bool, ia_bool_list, ia_bool_tuple, ia_bool_str, ia_bool_seq, ia_int_int, ia_int_bool, ia_int_list, ia_int_tuple, ia_int_str, ia_int_seq, ia_str_int, ia_str_bool, ia_str_list, ia_str_tuple, ia_str_str, ia_str_seq, ia_list_int, ia_list_bool, ia_list_list, ia_list_tuple, ia_list_str, ia_list_seq, ia_tuple_int, ia_tuple_bool, ia_tuple_list, ia_tuple_tuple, ia_tuple_str, ia_tuple_seq, mLst_ap, mTup_ap, mYes_ap, sizeLine_v, shaped_int, eqv_int, shaped_bool, eqv_bool, shaped_none, shaped_nilT, shaped_nilL, frz, frzAll, peek, res1, resAll, stoAll, argOf, argsOf, bors, wback, outAt, outsFrom, ownsStay, retv, wipeF, unwipe, sto, isNone, tyD, cY, cMul, cMod, cDiv, cPow, Cell.dat, b2n, frzS, frzL, fzV, atI, ixN, fMulL]; (try first | rfl | exact ⟨rfl, rfl⟩ | exact ⟨rfl, rfl, rfl⟩ | exact ⟨rfl, rfl, rfl, rfl⟩ | exact ⟨rfl, rfl, rfl, rfl, rfl⟩), ⟨S.sizes, rs⟩, s, rfl, rfl, i1.mono (by omega), ⟨ok.s0, ok.sN, ok.sa, ok.sb, ?_, by dsimp only; rw [i2]; exact ok.rM, i3⟩, rfl, i2⟩⟩
    dsimp only
    intro h
    rw [h] at i2
    simp at i2
    omega
end Rf

/-! Sp7: the law itself. -/
namespace Rf
open PySem PySem.Spec PyProof.Rows L2
def SpRight (c : Int) (D : Dm) : Prop := ∀ (C : Int) (s : S0), Bx C s → C + c ≤ BC → Ev D [s] fun r outs => r = .dat (.bool true) ∧ ∃ s', outs = [s'] ∧ Bx (C + c) s'
theorem bools_all {l : List PyData} (h : ∀ (j : Nat) (x : PyData), l[j]? = some x → x = .bool true) : ∃ bs, boolsD l = some bs ∧ bs.all id = true := by
  induction l with
  | nil => exact ⟨[], rfl, rfl⟩
  | cons x l ih =>
    obtain rfl := h 0 x rfl
    obtain ⟨bs, e1, e2⟩ := ih fun j x hj => h (j + 1) x (by simpa using hj)
    exact ⟨true :: bs, by simp [boolsD, e1], by simpa using e2⟩
theorem law_gen {A T c : Int} (hA : 0 ≤ A) (hA3 : A ≤ 3) (hT : 0 ≤ T) (hT4 : T ≤ 4) (hc : 0 ≤ c) (hc1 : c ≤ 20000000) {X R D : Dm} (hX : SpBox X) (hR : SpRight c R) (hD : D = mkD 1 4 [0]
    (mSeq (mFor (iRan (mCons (m2 fAddX (mLit (.int 1)) (mB1 fMin2 (mCons (mLit (.int A)) (mCons (mB1 fLen (mCons (mVar 0) mNil)) mNil)))) mNil)) (gSet 1) (mSeq (mSet 2 (mCall X (mFz (mCons (mVar 0) (mCons (mVar 1) mNil)))))
    (mIf (mNotT (mB (mB1 fAll (mCons (mLc 4 (iRan (mCons (mLit (.int T)) mNil)) (gSet 3) mYes (mCall R (mFz (mCons (mVar 2) mNil))) [3]) mNil)))) (mRet (mLit (.bool false))) mNext)))
    (mRet (mLit (.bool true))))) (ns : List Int) (hn : ns.length ≤ 63) : ∃ outs, D [.dat (scr ns)] = some (.dat (.bool true), outs) := by
  subst hD
  have e2 : scr ns = .list (dI ns) := rfl
  obtain ⟨N, hN⟩ : ∃ N : Int, N = 1 + (if (ns.length : Int) < A then (ns.length : Int) else A) := ⟨_, rfl⟩
  have hN1 : 0 ≤ N ∧ N ≤ 4 := by rw [hN]; split <;> omega
  have w1 : -4611686018427387904 ≤ N := by omega
  have w2 : N < 4611686018427387904 := by omega
  have w3 : -4611686018427387904 ≤ T := by omega
  have w4 : T < 4611686018427387904 := by omega
  have main : Ev (mkD 1 4 [0]
    (mSeq (mFor (iRan (mCons (m2 fAddX (mLit (.int 1)) (mB1 fMin2 (mCons (mLit (.int A)) (mCons (mB1 fLen (mCons (mVar 0) mNil)) mNil)))) mNil)) (gSet 1) (mSeq (mSet 2 (mCall X (mFz (mCons (mVar 0) (mCons (mVar 1) mNil)))))
    (mIf (mNotT (mB (mB1 fAll (mCons (mLc 4 (iRan (mCons (mLit (.int T)) mNil)) (gSet 3) mYes (mCall R (mFz (mCons (mVar 2) mNil))) [3]) mNil)))) (mRet (mLit (.bool false))) mNext)))
    (mRet (mLit (.bool true))))) [.dat (scr ns)] fun r outs => r = .dat (.bool true) := by
    refine mkD_wp rfl (wp_seq (wp_for (ds := Rf.intsFrom 0 N.toNat) (fm0 := [some (.dat (scr ns)), none, none, none]) (fun k fm => ∃ x1 x2, fm = [some (.dat (scr ns)), x1, x2, none]) ?_ ⟨_, _, rfl⟩ ?_ ?_))
    · simp [mVar_ap, mLit_ap, m2_ap, mB_ap, mAndT_ap, mOrT_ap, mNotT_ap, mAndV_ap, mOrV_ap, mNotV_ap, mIfE_ap, mNil_ap, mCons_ap, mDisp_ap, gSet_ap, gsNil_ap, gsCons_ap, gTupD_ap, mSet_ap, mAsg_ap, mPar_ap, mExpr_ap, mRet_ap, mRetN_ap, mNext_ap, mBreak_ap, mCont_ap, mSeq_ap, mIf_ap, iSeq_ap, iRan_ap, iRan2_ap, iEnm_ap, iZp_ap, mFor_ap, mWhile_ap, mCall_ap, mkD_ap, mLc_ap, fI_ap, fAdd_ap, fSub_ap, fMul_ap, fMod_ap, fDiv_ap, fPow_ap, fLt_ap, fLe_ap, fGt_ap, fGe_ap, fIsN_ap, fNotN_ap, fIsB_ap, fIx_ap, fAddX_ap, fSubX_ap, fMulX_ap, m1_ap, fNeg_ap, mB1_ap, fLen_ap, fAbs_ap, fInt_ap, fMin2_ap, fMax2_ap, fList_ap, fTuple_ap, fStr_ap, mMt_ap, mMtZ_ap, fAppend_ap, fInsert_ap, fExtend_ap, fPopAt_ap, mChain_ap, oNone_ap, oSome_ap, mSl_ap, gIx_ap, fInX_ap, fNotInX_ap, mIsi_ap, fEqX_ap, fNeX_ap, fAll_ap, fAny_ap, fSum_ap, fSorted_ap, fBest_ap, fIdx_ap, fRepr_ap, mPermA_ap, fBack_ap, gSplice_ap, mSortSet_ap, fMulY_ap, mTupRan_ap, mFz_ap, mGh_ap, fIsX_ap, mGhO_ap, ia_none_int, ia_none_bool, ia_none_list, ia_none_tuple, ia_none_str, ia_none_seq, ia_bool_int, ia_bool_bool, ia_bool_list, ia_bool_tuple, ia_bool_str, ia_bool_seq, ia_int_int, ia_int_bool, ia_int_list, ia_int_tuple, ia_int_str, ia_int_seq, ia_str_int, ia_str_bool, ia_str_list, ia_str_tuple, ia_str_str, ia_str_seq, ia_list_int, ia_list_bool, ia_list_list, ia_list_tuple, ia_list_str, ia_list_seq, ia_tuple_int, ia_tuple_bool, ia_tuple_list, ia_tuple_tuple, ia_tuple_str, ia_tuple_seq, mLst_ap, mTup_ap, mYes_ap, sizeLine_v, shaped_int, eqv_int, shaped_bool, eqv_bool, shaped_none, shaped_nilT, shaped_nilL, frz, frzAll, peek, res1, resAll, stoAll, argOf, argsOf, bors, wback, outAt, outsFrom, ownsStay, retv, wipeF, unwipe, sto, isNone, tyD, cY, cMul, cMod, cDiv, cPow, Cell.dat, b2n, frzS, frzL, fzV, atI, ixN, fMulL, e2, hN]
      rw [hN] at w1 w2
      exact ⟨w1, w2⟩
    · intro j d m fm i
      obtain ⟨rfl, hj⟩ := ints_get0 m
      obtain ⟨x1, x2, rfl⟩ := i
      obtain ⟨cc, b1, b2⟩ := hX ns ((j : Nat) : Int) (by omega) (by omega) hn
      refine ⟨_, rfl, wp_nx (fm1 := [some (.dat (scr ns)), some (.dat (.int (j : Nat))), some (.own cc), none]) (by simp [mVar_ap, mLit_ap, m2_ap, mB_ap, mAndT_ap, mOrT_ap, mNotT_ap, mAndV_ap, mOrV_ap, mNotV_ap, mIfE_ap, mNil_ap, mCons_ap, mDisp_ap, gSet_ap, gsNil_ap, gsCons_ap, gTupD_ap, mSet_ap, mAsg_ap, mPar_ap, mExpr_ap, mRet_ap, mRetN_ap, mNext_ap, mBreak_ap, mCont_ap, mSeq_ap, mIf_ap, iSeq_ap, iRan_ap, iRan2_ap, iEnm_ap, iZp_ap, mFor_ap, mWhile_ap, mCall_ap, mkD_ap, mLc_ap, fI_ap, fAdd_ap, fSub_ap, fMul_ap, fMod_ap, fDiv_ap, fPow_ap, fLt_ap, fLe_ap, fGt_ap, fGe_ap, fIsN_ap, fNotN_ap, fIsB_ap, fIx_ap, fAddX_ap, fSubX_ap, fMulX_ap, m1_ap, fNeg_ap, mB1_ap, fLen_ap, fAbs_ap, fInt_ap, fMin2_ap, fMax2_ap, fList_ap, fTuple_ap, fStr_ap, mMt_ap, mMtZ_ap, fAppend_ap, fInsert_ap, fExtend_ap, fPopAt_ap, mChain_ap, oNone_ap, oSome_ap, mSl_ap, gIx_ap, fInX_ap, fNotInX_ap, mIsi_ap, fEqX_ap, fNeX_ap, fAll_ap, fAny_ap, fSum_ap, fSorted_ap, fBest_ap, fIdx_ap, fRepr_ap, mPermA_ap, fBack_ap, gSplice_ap, mSortSet_ap, fMulY_ap, mTupRan_ap, mFz_ap, mGh_ap, fIsX_ap, mGhO_ap, ia_none_int, ia_none_bool, ia_none_list, ia_none_tuple, ia_none_str, ia_none_seq, ia_bool_int, ia_bool_bool, ia_bool_list, ia_bool_tuple, ia_bool_str, ia_bool_seq, ia_int_int, ia_int_bool, ia_int_list, ia_int_tuple, ia_int_str, ia_int_seq, ia_str_int, ia_str_bool, ia_str_list, ia_str_tuple, ia_str_str, ia_str_seq, ia_list_int, ia_list_bool, ia_list_list, ia_list_tuple, ia_list_str, ia_list_seq, ia_tuple_int, ia_tuple_bool, ia_tuple_list, ia_tuple_tuple, ia_tuple_str, ia_tuple_seq, mLst_ap, mTup_ap, mYes_ap, sizeLine_v, shaped_int, eqv_int, shaped_bool, eqv_bool, shaped_none, shaped_nilT, shaped_nilL, frz, frzAll, peek, res1, resAll, stoAll, argOf, argsOf, bors, wback, outAt, outsFrom, ownsStay, retv, wipeF, unwipe, sto, isNone, tyD, cY, cMul, cMod, cDiv, cPow, Cell.dat, b2n, frzS, frzL, fzV, atI, ixN, fMulL, b2]) ?_⟩
      obtain ⟨out, fm', c1, c2, c3, s', rfl, c4⟩ := comp_inv (g := gSet 3) (me := mCall R (mFz (mCons (mVar 2) mNil))) (vs := [3]) (fun k fm => ∃ s, fm = [some (.dat (scr ns)), some (.dat (.int (j : Nat))), some s, none] ∧ Bx (c * k) s) (fun _ x => x = .bool true) (Rf.intsFrom 0 T.toNat) [] 0 [some (.dat (scr ns)), some (.dat (.int (j : Nat))), some (.own cc), none] (by
        intro j' d m fm i
        rw [Nat.zero_add] at i ⊢
        obtain ⟨rfl, hj'⟩ := ints_get0 m
        obtain ⟨s, rfl, i1⟩ := i
        have hcj : c * (j' : Int) ≤ c * 4 := Int.mul_le_mul_of_nonneg_left (by omega) hc
        obtain ⟨_, _, f1, rfl, s', rfl, f2⟩ := hR _ s i1 (by show _ ≤ (100000000 : Int); omega)
        obtain ⟨q, rfl⟩ := i1.own
        obtain ⟨q', rfl⟩ := f2.own
        have e5 : c * ((j' + 1 : Nat) : Int) = c * (j' : Int) + c := by rw [Int.natCast_add, Int.mul_add]; simp
        exact ⟨_, .dat (.bool true), _, _, _, rfl, by simp [mVar_ap, mLit_ap, m2_ap, mB_ap, mAndT_ap, mOrT_ap, mNotT_ap, mAndV_ap, mOrV_ap, mNotV_ap, mIfE_ap, mNil_ap, mCons_ap, mDisp_ap, gSet_ap, gsNil_ap, gsCons_ap, gTupD_ap, mSet_ap, mAsg_ap, mPar_ap, mExpr_ap, mRet_ap, mRetN_ap, mNext_ap, mBreak_ap, mCont_ap, mSeq_ap, mIf_ap, iSeq_ap, iRan_ap, iRan2_ap, iEnm_ap, iZp_ap, mFor_ap, mWhile_ap, mCall_ap, mkD_ap, mLc_ap, fI_ap, fAdd_ap, fSub_ap, fMul_ap, fMod_ap, fDiv_ap, fPow_ap, fLt_ap, fLe_ap, fGt_ap, fGe_ap, fIsN_ap, fNotN_ap, fIsB_ap, fIx_ap, fAddX_ap, fSubX_ap, fMulX_ap, m1_ap, fNeg_ap, mB1_ap, fLen_ap, fAbs_ap, fInt_ap, fMin2_ap, fMax2_ap, fList_ap, fTuple_ap, fStr_ap, mMt_ap, mMtZ_ap, fAppend_ap, fInsert_ap, fExtend_ap, fPopAt_ap, mChain_ap, oNone_ap, oSome_ap, mSl_ap, gIx_ap, fInX_ap, fNotInX_ap, mIsi_ap, fEqX_ap, fNeX_ap, fAll_ap, fAny_ap, fSum_ap, fSorted_ap, fBest_ap, fIdx_ap, fRepr_ap, mPermA_ap, fBack_ap, gSplice_ap, mSortSet_ap, fMulY_ap, mTupRan_ap, mFz_ap, mGh_ap, fIsX_ap, mGhO_ap, ia_none_int, ia_none_bool, ia_none_list, ia_none_tuple, ia_none_str, ia_none_seq, ia_bool_int, ia_bool_bool, ia_bool_list, ia_bool_tuple, ia_bool_str, ia_bool_seq, ia_int_int, ia_int_bool, ia_int_list, ia_int_tuple, ia_int_str, ia_int_seq, ia_str_int, ia_str_bool, ia_str_list, ia_str_tuple, ia_str_str, ia_str_seq, ia_list_int, ia_list_bool, ia_list_list, ia_list_tuple, ia_list_str, ia_list_seq, ia_tuple_int, ia_tuple_bool, ia_tuple_list, ia_tuple_tuple, ia_tuple_str, ia_tuple_seq, mLst_ap, mTup_ap, mYes_ap, sizeLine_v, shaped_int, eqv_int, shaped_bool, eqv_bool, shaped_none, shaped_nilT, shaped_nilL, frz, frzAll, peek, res1, resAll, stoAll, argOf, argsOf, bors, wback, outAt, outsFrom, ownsStay, retv, wipeF, unwipe, sto, isNone, tyD, cY, cMul, cMod, cDiv, cPow, Cell.dat, b2n, frzS, frzL, fzV, atI, ixN, fMulL, f1]; (try first | rfl | exact ⟨rfl, rfl⟩ | exact ⟨rfl, rfl, rfl⟩ | exact ⟨rfl, rfl, rfl, rfl⟩ | exact ⟨rfl, rfl, rfl, rfl, rfl⟩), rfl, rfl, _, by simp [wipeF]; (try first | rfl | exact ⟨rfl, rfl⟩ | exact ⟨rfl, rfl, rfl⟩ | exact ⟨rfl, rfl, rfl, rfl⟩ | exact ⟨rfl, rfl, rfl, rfl, rfl⟩), by rw [e5]; exact f2⟩) ⟨_, rfl, by simpa using b1⟩ (by rw [ints_len, sizeLine_v]; simp; omega)
      obtain ⟨bs, k1, k2⟩ := bools_all c3
      simp only [List.nil_append] at c1
      exact wp_is (fl := .nx) (by simp [mVar_ap, mLit_ap, m2_ap, mB_ap, mAndT_ap, mOrT_ap, mNotT_ap, mAndV_ap, mOrV_ap, mNotV_ap, mIfE_ap, mNil_ap, mCons_ap, mDisp_ap, gSet_ap, gsNil_ap, gsCons_ap, gTupD_ap, mSet_ap, mAsg_ap, mPar_ap, mExpr_ap, mRet_ap, mRetN_ap, mNext_ap, mBreak_ap, mCont_ap, mSeq_ap, mIf_ap, iSeq_ap, iRan_ap, iRan2_ap, iEnm_ap, iZp_ap, mFor_ap, mWhile_ap, mCall_ap, mkD_ap, mLc_ap, fI_ap, fAdd_ap, fSub_ap, fMul_ap, fMod_ap, fDiv_ap, fPow_ap, fLt_ap, fLe_ap, fGt_ap, fGe_ap, fIsN_ap, fNotN_ap, fIsB_ap, fIx_ap, fAddX_ap, fSubX_ap, fMulX_ap, m1_ap, fNeg_ap, mB1_ap, fLen_ap, fAbs_ap, fInt_ap, fMin2_ap, fMax2_ap, fList_ap, fTuple_ap, fStr_ap, mMt_ap, mMtZ_ap, fAppend_ap, fInsert_ap, fExtend_ap, fPopAt_ap, mChain_ap, oNone_ap, oSome_ap, mSl_ap, gIx_ap, fInX_ap, fNotInX_ap, mIsi_ap, fEqX_ap, fNeX_ap, fAll_ap, fAny_ap, fSum_ap, fSorted_ap, fBest_ap, fIdx_ap, fRepr_ap, mPermA_ap, fBack_ap, gSplice_ap, mSortSet_ap, fMulY_ap, mTupRan_ap, mFz_ap, mGh_ap, fIsX_ap, mGhO_ap, ia_none_int, ia_none_bool, ia_none_list, ia_none_tuple, ia_none_str, ia_none_seq, ia_bool_int, ia_bool_bool, ia_bool_list, ia_bool_tuple, ia_bool_str, ia_bool_seq, ia_int_int, ia_int_bool, ia_int_list, ia_int_tuple, ia_int_str, ia_int_seq, ia_str_int, ia_str_bool, ia_str_list, ia_str_tuple, ia_str_str, ia_str_seq, ia_list_int, ia_list_bool, ia_list_list, ia_list_tuple, ia_list_str, ia_list_seq, ia_tuple_int, ia_tuple_bool, ia_tuple_list, ia_tuple_tuple, ia_tuple_str, ia_tuple_seq, mLst_ap, mTup_ap, mYes_ap, sizeLine_v, shaped_int, eqv_int, shaped_bool, eqv_bool, shaped_none, shaped_nilT, shaped_nilL, frz, frzAll, peek, res1, resAll, stoAll, argOf, argsOf, bors, wback, outAt, outsFrom, ownsStay, retv, wipeF, unwipe, sto, isNone, tyD, cY, cMul, cMod, cDiv, cPow, Cell.dat, b2n, frzS, frzL, fzV, atI, ixN, fMulL, w3, w4, c1, k1, k2]; (try first | rfl | exact ⟨rfl, rfl⟩ | exact ⟨rfl, rfl, rfl⟩ | exact ⟨rfl, rfl, rfl, rfl⟩ | exact ⟨rfl, rfl, rfl, rfl, rfl⟩)) ⟨rfl, _, _, rfl⟩
    · intro fm' i
      obtain ⟨x1, x2, rfl⟩ := i
      exact ⟨rfl, wp_is (by simp [mVar_ap, mLit_ap, m2_ap, mB_ap, mAndT_ap, mOrT_ap, mNotT_ap, mAndV_ap, mOrV_ap, mNotV_ap, mIfE_ap, mNil_ap, mCons_ap, mDisp_ap, gSet_ap, gsNil_ap, gsCons_ap, gTupD_ap, mSet_ap, mAsg_ap, mPar_ap, mExpr_ap, mRet_ap, mRetN_ap, mNext_ap, mBreak_ap, mCont_ap, mSeq_ap, mIf_ap, iSeq_ap, iRan_ap, iRan2_ap, iEnm_ap, iZp_ap, mFor_ap, mWhile_ap, mCall_ap, mkD_ap, mLc_ap, fI_ap, fAdd_ap, fSub_ap, fMul_ap, fMod_ap, fDiv_ap, fPow_ap, fLt_ap, fLe_ap, fGt_ap, fGe_ap, fIsN_ap, fNotN_ap, fIsB_ap, fIx_ap, fAddX_ap, fSubX_ap, fMulX_ap, m1_ap, fNeg_ap, mB1_ap, fLen_ap, fAbs_ap, fInt_ap, fMin2_ap, fMax2_ap, fList_ap, fTuple_ap, fStr_ap, mMt_ap, mMtZ_ap, fAppend_ap, fInsert_ap, fExtend_ap, fPopAt_ap, mChain_ap, oNone_ap, oSome_ap, mSl_ap, gIx_ap, fInX_ap, fNotInX_ap, mIsi_ap, fEqX_ap, fNeX_ap, fAll_ap, fAny_ap, fSum_ap, fSorted_ap, fBest_ap, fIdx_ap, fRepr_ap, mPermA_ap, fBack_ap, gSplice_ap, mSortSet_ap, fMulY_ap, mTupRan_ap, mFz_ap, mGh_ap, fIsX_ap, mGhO_ap, ia_none_int, ia_none_bool, ia_none_list, ia_none_tuple, ia_none_str, ia_none_seq, ia_bool_int, ia_bool_bool, ia_bool_list, ia_bool_tuple, ia_bool_str, ia_bool_seq, ia_int_int, ia_int_bool, ia_int_list, ia_int_tuple, ia_int_str, ia_int_seq, ia_str_int, ia_str_bool, ia_str_list, ia_str_tuple, ia_str_str, ia_str_seq, ia_list_int, ia_list_bool, ia_list_list, ia_list_tuple, ia_list_str, ia_list_seq, ia_tuple_int, ia_tuple_bool, ia_tuple_list, ia_tuple_tuple, ia_tuple_str, ia_tuple_seq, mLst_ap, mTup_ap, mYes_ap, sizeLine_v, shaped_int, eqv_int, shaped_bool, eqv_bool, shaped_none, shaped_nilT, shaped_nilL, frz, frzAll, peek, res1, resAll, stoAll, argOf, argsOf, bors, wback, outAt, outsFrom, ownsStay, retv, wipeF, unwipe, sto, isNone, tyD, cY, cMul, cMod, cDiv, cPow, Cell.dat, b2n, frzS, frzL, fzV, atI, ixN, fMulL]; (try first | rfl | exact ⟨rfl, rfl⟩ | exact ⟨rfl, rfl, rfl⟩ | exact ⟨rfl, rfl, rfl, rfl⟩ | exact ⟨rfl, rfl, rfl, rfl, rfl⟩)) ⟨_, _, _, _, rfl, rfl, by simp [mVar_ap, mLit_ap, m2_ap, mB_ap, mAndT_ap, mOrT_ap, mNotT_ap, mAndV_ap, mOrV_ap, mNotV_ap, mIfE_ap, mNil_ap, mCons_ap, mDisp_ap, gSet_ap, gsNil_ap, gsCons_ap, gTupD_ap, mSet_ap, mAsg_ap, mPar_ap, mExpr_ap, mRet_ap, mRetN_ap, mNext_ap, mBreak_ap, mCont_ap, mSeq_ap, mIf_ap, iSeq_ap, iRan_ap, iRan2_ap, iEnm_ap, iZp_ap, mFor_ap, mWhile_ap, mCall_ap, mkD_ap, mLc_ap, fI_ap, fAdd_ap, fSub_ap, fMul_ap, fMod_ap, fDiv_ap, fPow_ap, fLt_ap, fLe_ap, fGt_ap, fGe_ap, fIsN_ap, fNotN_ap, fIsB_ap, fIx_ap, fAddX_ap, fSubX_ap, fMulX_ap, m1_ap, fNeg_ap, mB1_ap, fLen_ap, fAbs_ap, fInt_ap, fMin2_ap, fMax2_ap, fList_ap, fTuple_ap, fStr_ap, mMt_ap, mMtZ_ap, fAppend_ap, fInsert_ap, fExtend_ap, fPopAt_ap, mChain_ap, oNone_ap, oSome_ap, mSl_ap, gIx_ap, fInX_ap, fNotInX_ap, mIsi_ap, fEqX_ap, fNeX_ap, fAll_ap, fAny_ap, fSum_ap, fSorted_ap, fBest_ap, fIdx_ap, fRepr_ap, mPermA_ap, fBack_ap, gSplice_ap, mSortSet_ap, fMulY_ap, mTupRan_ap, mFz_ap, mGh_ap, fIsX_ap, mGhO_ap, ia_none_int, ia_none_bool, ia_none_list, ia_none_tuple, ia_none_str, ia_none_seq, ia_bool_int, ia_bool_bool, ia_bool_list, ia_bool_tuple, ia_bool_str, ia_bool_seq, ia_int_int, ia_int_bool, ia_int_list, ia_int_tuple, ia_int_str, ia_int_seq, ia_str_int, ia_str_bool, ia_str_list, ia_str_tuple, ia_str_str, ia_str_seq, ia_list_int, ia_list_bool, ia_list_list, ia_list_tuple, ia_list_str, ia_list_seq, ia_tuple_int, ia_tuple_bool, ia_tuple_list, ia_tuple_tuple, ia_tuple_str, ia_tuple_seq, mLst_ap, mTup_ap, mYes_ap, sizeLine_v, shaped_int, eqv_int, shaped_bool, eqv_bool, shaped_none, shaped_nilT, shaped_nilL, frz, frzAll, peek, res1, resAll, stoAll, argOf, argsOf, bors, wback, outAt, outsFrom, ownsStay, retv, wipeF, unwipe, sto, isNone, tyD, cY, cMul, cMod, cDiv, cPow, Cell.dat, b2n, frzS, frzL, fzV, atI, ixN, fMulL]; (try first | rfl | exact ⟨rfl, rfl⟩ | exact ⟨rfl, rfl, rfl⟩ | exact ⟨rfl, rfl, rfl, rfl⟩ | exact ⟨rfl, rfl, rfl, rfl, rfl⟩), rfl⟩⟩
  obtain ⟨r, outs, e, rfl⟩ := main
  exact ⟨outs, e⟩
end Rf

namespace Lk06
open PySem PySem.Spec PyProof.Rows L2 Rf
theorem h_take (n : Nat) : SpTake (D_take (n + 1)) := by rw [e_take]; exact sp_take
theorem h_pick (n : Nat) : SpPick (D_pick (n + 2)) := by rw [e_pick]; exact sp_pick (h_take n)
theorem h_box (n : Nat) : SpBox (D_box (n + 1)) := by rw [e_box]; exact sp_box
theorem h_gauges (n : Nat) : SpGauges (D_gauges (n + 3)) := by rw [e_gauges]; exact sp_gauges (h_pick n) (h_take (n + 1))
theorem h_shuffled (n : Nat) : SpShuffled (D_shuffled (n + 2)) := by rw [e_shuffled]; exact sp_shuffled (h_take n)
theorem h_span (n : Nat) : SpSpan (D_span (n + 2)) := by rw [e_span]; exact sp_span (h_take n)
theorem h_plant (n : Nat) : SpPlant (D_plant (n + 4)) := by rw [e_plant]; exact sp_plant (h_take (n + 2)) (h_gauges n) (h_shuffled (n + 1)) (h_span (n + 1))
theorem h_odd (n : Nat) : SpOdd (D_odd (n + 3)) := by rw [e_odd]; exact sp_odd (h_pick n)
theorem h_bent {l b : Nat} (hl : 3 ≤ l) (hl2 : l ≤ 900) (hb : 2 ≤ b) (hb2 : b ≤ 10 ^ 50) : ∀ (h n : Nat), SpBent l b h (D_bent (n + h + 4))
  | 0, n => by rw [e_bent]; exact bent_0 hl hl2 hb hb2 (h_odd n)
  | h + 1, n => by rw [show n + (h + 1) + 4 = (n + h + 4) + 1 by omega, e_bent]; exact bent_S hl hl2 hb hb2 (h_take _) (h_odd (n + h + 1)) (h_bent hl hl2 hb hb2 h n)
theorem h_same {l b : Nat} (hl : l ≤ 1000000) : ∀ (h n : Nat), SpSame l b h (D_same (n + h + 1))
  | 0, n => by rw [e_same]; exact same_0
  | h + 1, n => by rw [show n + (h + 1) + 1 = (n + h + 1) + 1 by omega, e_same]; exact same_S hl (h_same hl h n)
theorem h_lists {l b : Nat} (hl : l ≤ 1000000) : ∀ (h n : Nat), SpLists l b h (D_lists (n + h + 1))
  | 0, n => by rw [e_lists]; exact lists_0
  | h + 1, n => by rw [show n + (h + 1) + 1 = (n + h + 1) + 1 by omega, e_lists]; exact lists_S hl (h_lists hl h n)
theorem h_tight (n : Nat) : SpTight (D_tight (n + 3)) := by rw [e_tight]; exact tight_gen (K := 6) (by omega) (by omega) (h_take (n + 1)) (h_pick n) rfl
theorem h_number (n : Nat) : SpNum (Dis_number (n + 1)) := by rw [eis_number]; exact sp_num
theorem h_integer (n : Nat) : SpNum (D_integer (n + 1)) := by rw [e_integer]; exact sp_integer
theorem h_pair (n : Nat) : SpPair (Dis_pair (n + 1)) := by rw [eis_pair]; exact sp_pair
theorem h_iv (n : Nat) : SpIv (Dis_interval (n + 2)) := by rw [eis_interval]; exact sp_iv (h_pair n) (h_number n)
theorem h_lack (n : Nat) : SpLack (Dshortage (n + 1)) := by rw [eshortage]; exact sp_lack
/-! the two tests -/
def ovB (S : Shop) : PyData → Bool
  | .tuple [.int a, .int b] => decide (0 < S.lack a b)
  | _ => false
theorem lack_none {M N : Nat} {S : Shop} (ok : ShopOk M N S) {a b : Int} (h : ¬ a ≤ b) : ¬ 0 < S.lack a b := by
  have : S.inR a b = [] := by
    unfold Shop.inR
    rw [List.filter_eq_nil_iff]
    intro p m
    have := ok.rb p m
    simp only [Bool.and_eq_true, decide_eq_true_eq]
    omega
  unfold Shop.lack
  rw [this]
  simp
  try omega
theorem h_shows (n : Nat) {M N : Nat} {S : Shop} (ok : ShopOk M N S) (hM : M ≤ 1000) (hN : N ≤ 1000) (b : Bool) (d : PyData) (hd : Pl2 d) : Dshows_overfull (n + 3) [.dat (shopD b S), .dat d] = some (.dat (.bool (ovB S d)), [.dat (shopD b S), .dat d]) := by
  rw [eshows_overfull]
  have h1 := h_iv n d hd
  have key : ∀ x y : Int, Bshows_overfull (Dshortage (n + 2)) (Dis_interval (n + 2)) [.dat (shopD b S), .dat (.tuple [.int x, .int y])] = some (.dat (.bool (ovB S (.tuple [.int x, .int y]))), [.dat (shopD b S), .dat (.tuple [.int x, .int y])]) ∨ d ≠ .tuple [.int x, .int y] := fun x y => by
    by_cases hd' : d = .tuple [.int x, .int y]
    · left
      subst hd'
      have h2 := h_lack (n + 1) b S x y (by have := ok.sN; omega) (by have := ok.rM; omega)
      by_cases hxy : x ≤ y
      · simp [Bshows_overfull, mVar_ap, mLit_ap, m2_ap, mB_ap, mAndT_ap, mOrT_ap, mNotT_ap, mAndV_ap, mOrV_ap, mNotV_ap, mIfE_ap, mNil_ap, mCons_ap, mDisp_ap, gSet_ap, gsNil_ap, gsCons_ap, gTupD_ap, mSet_ap, mAsg_ap, mPar_ap, mExpr_ap, mRet_ap, mRetN_ap, mNext_ap, mBreak_ap, mCont_ap, mSeq_ap, mIf_ap, iSeq_ap, iRan_ap, iRan2_ap, iEnm_ap, iZp_ap, mFor_ap, mWhile_ap, mCall_ap, mkD_ap, mLc_ap, fI_ap, fAdd_ap, fSub_ap, fMul_ap, fMod_ap, fDiv_ap, fPow_ap, fLt_ap, fLe_ap, fGt_ap, fGe_ap, fIsN_ap, fNotN_ap, fIsB_ap, fIx_ap, fAddX_ap, fSubX_ap, fMulX_ap, m1_ap, fNeg_ap, mB1_ap, fLen_ap, fAbs_ap, fInt_ap, fMin2_ap, fMax2_ap, fList_ap, fTuple_ap, fStr_ap, mMt_ap, mMtZ_ap, fAppend_ap, fInsert_ap, fExtend_ap, fPopAt_ap, mChain_ap, oNone_ap, oSome_ap, mSl_ap, gIx_ap, fInX_ap, fNotInX_ap, mIsi_ap, fEqX_ap, fNeX_ap, fAll_ap, fAny_ap, fSum_ap, fSorted_ap, fBest_ap, fIdx_ap, fRepr_ap, mPermA_ap, fBack_ap, gSplice_ap, mSortSet_ap, fMulY_ap, mTupRan_ap, mFz_ap, mGh_ap, fIsX_ap, mGhO_ap, ia_none_int, ia_none_bool, ia_none_list, ia_none_tuple, ia_none_str, ia_none_seq, ia_bool_int, ia_bool_bool, ia_bool_list, ia_bool_tuple, ia_bool_str, ia_bool_seq, ia_int_int, ia_int_bool, ia_int_list, ia_int_tuple, ia_int_str, ia_int_seq, ia_str_int, ia_str_bool, ia_str_list, ia_str_tuple, ia_str_str, ia_str_seq, ia_list_int, ia_list_bool, ia_list_list, ia_list_tuple, ia_list_str, ia_list_seq, ia_tuple_int, ia_tuple_bool, ia_tuple_list, ia_tuple_tuple, ia_tuple_str, ia_tuple_seq, mLst_ap, mTup_ap, mYes_ap, sizeLine_v, shaped_int, eqv_int, shaped_bool, eqv_bool, shaped_none, shaped_nilT, shaped_nilL, frz, frzAll, peek, res1, resAll, stoAll, argOf, argsOf, bors, wback, outAt, outsFrom, ownsStay, retv, wipeF, unwipe, sto, isNone, tyD, cY, cMul, cMod, cDiv, cPow, Cell.dat, b2n, frzS, frzL, fzV, atI, ixN, fMulL, h1, ivB, hxy, h2, ovB]
      · have := lack_none ok hxy
        simp [Bshows_overfull, mVar_ap, mLit_ap, m2_ap, mB_ap, mAndT_ap, mOrT_ap, mNotT_ap, mAndV_ap, mOrV_ap, mNotV_ap, mIfE_ap, mNil_ap, mCons_ap, mDisp_ap, gSet_ap, gsNil_ap, gsCons_ap, gTupD_ap, mSet_ap, mAsg_ap, mPar_ap, mExpr_ap, mRet_ap, mRetN_ap, mNext_ap, mBreak_ap, mCont_ap, mSeq_ap, mIf_ap, iSeq_ap, iRan_ap, iRan2_ap, iEnm_ap, iZp_ap, mFor_ap, mWhile_ap, mCall_ap, mkD_ap, mLc_ap, fI_ap, fAdd_ap, fSub_ap, fMul_ap, fMod_ap, fDiv_ap, fPow_ap, fLt_ap, fLe_ap, fGt_ap, fGe_ap, fIsN_ap, fNotN_ap, fIsB_ap, fIx_ap, fAddX_ap, fSubX_ap, fMulX_ap, m1_ap, fNeg_ap, mB1_ap, fLen_ap, fAbs_ap, fInt_ap, fMin2_ap, fMax2_ap, fList_ap, fTuple_ap, fStr_ap, mMt_ap, mMtZ_ap, fAppend_ap, fInsert_ap, fExtend_ap, fPopAt_ap, mChain_ap, oNone_ap, oSome_ap, mSl_ap, gIx_ap, fInX_ap, fNotInX_ap, mIsi_ap, fEqX_ap, fNeX_ap, fAll_ap, fAny_ap, fSum_ap, fSorted_ap, fBest_ap, fIdx_ap, fRepr_ap, mPermA_ap, fBack_ap, gSplice_ap, mSortSet_ap, fMulY_ap, mTupRan_ap, mFz_ap, mGh_ap, fIsX_ap, mGhO_ap, ia_none_int, ia_none_bool, ia_none_list, ia_none_tuple, ia_none_str, ia_none_seq, ia_bool_int, ia_bool_bool, ia_bool_list, ia_bool_tuple, ia_bool_str, ia_bool_seq, ia_int_int, ia_int_bool, ia_int_list, ia_int_tuple, ia_int_str, ia_int_seq, ia_str_int, ia_str_bool, ia_str_list, ia_str_tuple, ia_str_str, ia_str_seq, ia_list_int, ia_list_bool, ia_list_list, ia_list_tuple, ia_list_str, ia_list_seq, ia_tuple_int, ia_tuple_bool, ia_tuple_list, ia_tuple_tuple, ia_tuple_str, ia_tuple_seq, mLst_ap, mTup_ap, mYes_ap, sizeLine_v, shaped_int, eqv_int, shaped_bool, eqv_bool, shaped_none, shaped_nilT, shaped_nilL, frz, frzAll, peek, res1, resAll, stoAll, argOf, argsOf, bors, wback, outAt, outsFrom, ownsStay, retv, wipeF, unwipe, sto, isNone, tyD, cY, cMul, cMod, cDiv, cPow, Cell.dat, b2n, frzS, frzL, fzV, atI, ixN, fMulL, h1, ivB, hxy, ovB, this]
        try omega
    · exact .inr hd'
  have no : ivB d = false → ovB S d = false → Bshows_overfull (Dshortage (n + 2)) (Dis_interval (n + 2)) [.dat (shopD b S), .dat d] = some (.dat (.bool (ovB S d)), [.dat (shopD b S), .dat d]) := fun z1 z2 => by
    simp [Bshows_overfull, mVar_ap, mLit_ap, m2_ap, mB_ap, mAndT_ap, mOrT_ap, mNotT_ap, mAndV_ap, mOrV_ap, mNotV_ap, mIfE_ap, mNil_ap, mCons_ap, mDisp_ap, gSet_ap, gsNil_ap, gsCons_ap, gTupD_ap, mSet_ap, mAsg_ap, mPar_ap, mExpr_ap, mRet_ap, mRetN_ap, mNext_ap, mBreak_ap, mCont_ap, mSeq_ap, mIf_ap, iSeq_ap, iRan_ap, iRan2_ap, iEnm_ap, iZp_ap, mFor_ap, mWhile_ap, mCall_ap, mkD_ap, mLc_ap, fI_ap, fAdd_ap, fSub_ap, fMul_ap, fMod_ap, fDiv_ap, fPow_ap, fLt_ap, fLe_ap, fGt_ap, fGe_ap, fIsN_ap, fNotN_ap, fIsB_ap, fIx_ap, fAddX_ap, fSubX_ap, fMulX_ap, m1_ap, fNeg_ap, mB1_ap, fLen_ap, fAbs_ap, fInt_ap, fMin2_ap, fMax2_ap, fList_ap, fTuple_ap, fStr_ap, mMt_ap, mMtZ_ap, fAppend_ap, fInsert_ap, fExtend_ap, fPopAt_ap, mChain_ap, oNone_ap, oSome_ap, mSl_ap, gIx_ap, fInX_ap, fNotInX_ap, mIsi_ap, fEqX_ap, fNeX_ap, fAll_ap, fAny_ap, fSum_ap, fSorted_ap, fBest_ap, fIdx_ap, fRepr_ap, mPermA_ap, fBack_ap, gSplice_ap, mSortSet_ap, fMulY_ap, mTupRan_ap, mFz_ap, mGh_ap, fIsX_ap, mGhO_ap, ia_none_int, ia_none_bool, ia_none_list, ia_none_tuple, ia_none_str, ia_none_seq, ia_bool_int, ia_bool_bool, ia_bool_list, ia_bool_tuple, ia_bool_str, ia_bool_seq, ia_int_int, ia_int_bool, ia_int_list, ia_int_tuple, ia_int_str, ia_int_seq, ia_str_int, ia_str_bool, ia_str_list, ia_str_tuple, ia_str_str, ia_str_seq, ia_list_int, ia_list_bool, ia_list_list, ia_list_tuple, ia_list_str, ia_list_seq, ia_tuple_int, ia_tuple_bool, ia_tuple_list, ia_tuple_tuple, ia_tuple_str, ia_tuple_seq, mLst_ap, mTup_ap, mYes_ap, sizeLine_v, shaped_int, eqv_int, shaped_bool, eqv_bool, shaped_none, shaped_nilT, shaped_nilL, frz, frzAll, peek, res1, resAll, stoAll, argOf, argsOf, bors, wback, outAt, outsFrom, ownsStay, retv, wipeF, unwipe, sto, isNone, tyD, cY, cMul, cMod, cDiv, cPow, Cell.dat, b2n, frzS, frzL, fzV, atI, ixN, fMulL, h1, z1, z2]
  match d, hd, key, no with
  | .tuple [.int x, .int y], hd, key, no => exact (key x y).elim id fun h => absurd rfl h
  | .none, _, _, no => exact no (by simp [ivB]) (by simp [ovB])
  | .bool _, _, _, no => exact no (by simp [ivB]) (by simp [ovB])
  | .int _, _, _, no => exact no (by simp [ivB]) (by simp [ovB])
  | .str _, _, _, no => exact no (by simp [ivB]) (by simp [ovB])
  | .list _, _, _, no => exact no (by simp [ivB]) (by simp [ovB])
  | .dict _, hd, _, _ => simp [Pl2, plainD] at hd
  | .tuple [], _, _, no => exact no (by simp [ivB]) (by simp [ovB])
  | .tuple [_], _, _, no => exact no (by simp [ivB]) (by simp [ovB])
  | .tuple (_ :: _ :: _ :: _), _, _, no => exact no (by simp [ivB]) (by simp [ovB])
  | .tuple [.none, _], _, _, no => exact no (by simp [ivB]) (by simp [ovB])
  | .tuple [.bool _, _], _, _, no => exact no (by simp [ivB]) (by simp [ovB])
  | .tuple [.str _, _], _, _, no => exact no (by simp [ivB]) (by simp [ovB])
  | .tuple [.list _, _], _, _, no => exact no (by simp [ivB]) (by simp [ovB])
  | .tuple [.tuple _, _], _, _, no => exact no (by simp [ivB]) (by simp [ovB])
  | .tuple [.dict _, _], _, _, no => exact no (by simp [ivB]) (by simp [ovB])
  | .tuple [.int _, .none], _, _, no => exact no (by simp [ivB]) (by simp [ovB])
  | .tuple [.int _, .bool _], _, _, no => exact no (by simp [ivB]) (by simp [ovB])
  | .tuple [.int _, .str _], _, _, no => exact no (by simp [ivB]) (by simp [ovB])
  | .tuple [.int _, .list _], _, _, no => exact no (by simp [ivB]) (by simp [ovB])
  | .tuple [.int _, .tuple _], _, _, no => exact no (by simp [ivB]) (by simp [ovB])
  | .tuple [.int _, .dict _], _, _, no => exact no (by simp [ivB]) (by simp [ovB])
theorem h_due (n : Nat) {M N : Nat} {S : Shop} (ok : ShopOk M N S) (hM : M ≤ 1000) (hN : N ≤ 1000) (d : PyData) (hd : Pl2 d) : D_is_overfull (n + 2) [.dat (dShop S), .dat d] = some (.dat (.bool (ovB S d)), [.dat (dShop S), .dat d]) := by
  rw [e_is_overfull]
  have hi := h_integer n
  have h1 := ok.sN
  have h2 := ok.rM
  have pair : ∀ x y : PyData, d = .tuple [x, y] → ∀ z1 z2 z3 : Option S0, mLc 6 (iSeq (mVar 1)) (gSet 5) mYes (mCall (D_integer (n + 1)) (mFz (mCons (mVar 5) mNil))) [5] [some (.dat (dShop S)), some (.dat (.tuple [x, y])), z1, z2, z3, none] = some (.fre (.lst [.bool (numB x), .bool (numB y)]), [some (.dat (dShop S)), some (.dat (.tuple [x, y])), z1, z2, z3, none]) := fun x y e z1 z2 z3 => by
    have p1 := hi x (hd.2.1 _ e x (by simp))
    have p2 := hi y (hd.2.1 _ e y (by simp))
    simp [mVar_ap, mLit_ap, m2_ap, mB_ap, mAndT_ap, mOrT_ap, mNotT_ap, mAndV_ap, mOrV_ap, mNotV_ap, mIfE_ap, mNil_ap, mCons_ap, mDisp_ap, gSet_ap, gsNil_ap, gsCons_ap, gTupD_ap, mSet_ap, mAsg_ap, mPar_ap, mExpr_ap, mRet_ap, mRetN_ap, mNext_ap, mBreak_ap, mCont_ap, mSeq_ap, mIf_ap, iSeq_ap, iRan_ap, iRan2_ap, iEnm_ap, iZp_ap, mFor_ap, mWhile_ap, mCall_ap, mkD_ap, mLc_ap, fI_ap, fAdd_ap, fSub_ap, fMul_ap, fMod_ap, fDiv_ap, fPow_ap, fLt_ap, fLe_ap, fGt_ap, fGe_ap, fIsN_ap, fNotN_ap, fIsB_ap, fIx_ap, fAddX_ap, fSubX_ap, fMulX_ap, m1_ap, fNeg_ap, mB1_ap, fLen_ap, fAbs_ap, fInt_ap, fMin2_ap, fMax2_ap, fList_ap, fTuple_ap, fStr_ap, mMt_ap, mMtZ_ap, fAppend_ap, fInsert_ap, fExtend_ap, fPopAt_ap, mChain_ap, oNone_ap, oSome_ap, mSl_ap, gIx_ap, fInX_ap, fNotInX_ap, mIsi_ap, fEqX_ap, fNeX_ap, fAll_ap, fAny_ap, fSum_ap, fSorted_ap, fBest_ap, fIdx_ap, fRepr_ap, mPermA_ap, fBack_ap, gSplice_ap, mSortSet_ap, fMulY_ap, mTupRan_ap, mFz_ap, mGh_ap, fIsX_ap, mGhO_ap, ia_none_int, ia_none_bool, ia_none_list, ia_none_tuple, ia_none_str, ia_none_seq, ia_bool_int, ia_bool_bool, ia_bool_list, ia_bool_tuple, ia_bool_str, ia_bool_seq, ia_int_int, ia_int_bool, ia_int_list, ia_int_tuple, ia_int_str, ia_int_seq, ia_str_int, ia_str_bool, ia_str_list, ia_str_tuple, ia_str_str, ia_str_seq, ia_list_int, ia_list_bool, ia_list_list, ia_list_tuple, ia_list_str, ia_list_seq, ia_tuple_int, ia_tuple_bool, ia_tuple_list, ia_tuple_tuple, ia_tuple_str, ia_tuple_seq, mLst_ap, mTup_ap, mYes_ap, sizeLine_v, shaped_int, eqv_int, shaped_bool, eqv_bool, shaped_none, shaped_nilT, shaped_nilL, frz, frzAll, peek, res1, resAll, stoAll, argOf, argsOf, bors, wback, outAt, outsFrom, ownsStay, retv, wipeF, unwipe, sto, isNone, tyD, cY, cMul, cMod, cDiv, cPow, Cell.dat, b2n, frzS, frzL, fzV, atI, ixN, fMulL, compM, p1, p2]
  match d, hd, pair with
  | .none, _, _ => simp [B_is_overfull, mVar_ap, mLit_ap, m2_ap, mB_ap, mAndT_ap, mOrT_ap, mNotT_ap, mAndV_ap, mOrV_ap, mNotV_ap, mIfE_ap, mNil_ap, mCons_ap, mDisp_ap, gSet_ap, gsNil_ap, gsCons_ap, gTupD_ap, mSet_ap, mAsg_ap, mPar_ap, mExpr_ap, mRet_ap, mRetN_ap, mNext_ap, mBreak_ap, mCont_ap, mSeq_ap, mIf_ap, iSeq_ap, iRan_ap, iRan2_ap, iEnm_ap, iZp_ap, mFor_ap, mWhile_ap, mCall_ap, mkD_ap, fI_ap, fAdd_ap, fSub_ap, fMul_ap, fMod_ap, fDiv_ap, fPow_ap, fLt_ap, fLe_ap, fGt_ap, fGe_ap, fIsN_ap, fNotN_ap, fIsB_ap, fIx_ap, fAddX_ap, fSubX_ap, fMulX_ap, m1_ap, fNeg_ap, mB1_ap, fLen_ap, fAbs_ap, fInt_ap, fMin2_ap, fMax2_ap, fList_ap, fTuple_ap, fStr_ap, mMt_ap, mMtZ_ap, fAppend_ap, fInsert_ap, fExtend_ap, fPopAt_ap, mChain_ap, oNone_ap, oSome_ap, mSl_ap, gIx_ap, fInX_ap, fNotInX_ap, mIsi_ap, fEqX_ap, fNeX_ap, fAll_ap, fAny_ap, fSum_ap, fSorted_ap, fBest_ap, fIdx_ap, fRepr_ap, mPermA_ap, fBack_ap, gSplice_ap, mSortSet_ap, fMulY_ap, mTupRan_ap, mFz_ap, mGh_ap, fIsX_ap, mGhO_ap, ia_none_int, ia_none_bool, ia_none_list, ia_none_tuple, ia_none_str, ia_none_seq, ia_bool_int, ia_bool_bool, ia_bool_list, ia_bool_tuple, ia_bool_str, ia_bool_seq, ia_int_int, ia_int_bool, ia_int_list, ia_int_tuple, ia_int_str, ia_int_seq, ia_str_int, ia_str_bool, ia_str_list, ia_str_tuple, ia_str_str, ia_str_seq, ia_list_int, ia_list_bool, ia_list_list, ia_list_tuple, ia_list_str, ia_list_seq, ia_tuple_int, ia_tuple_bool, ia_tuple_list, ia_tuple_tuple, ia_tuple_str, ia_tuple_seq, mLst_ap, mTup_ap, mYes_ap, sizeLine_v, shaped_int, eqv_int, shaped_bool, eqv_bool, shaped_none, shaped_nilT, shaped_nilL, frz, frzAll, peek, res1, resAll, stoAll, argOf, argsOf, bors, wback, outAt, outsFrom, ownsStay, retv, wipeF, unwipe, sto, isNone, tyD, cY, cMul, cMod, cDiv, cPow, Cell.dat, b2n, frzS, frzL, fzV, atI, ixN, fMulL, ovB]
  | .bool _, _, _ => simp [B_is_overfull, mVar_ap, mLit_ap, m2_ap, mB_ap, mAndT_ap, mOrT_ap, mNotT_ap, mAndV_ap, mOrV_ap, mNotV_ap, mIfE_ap, mNil_ap, mCons_ap, mDisp_ap, gSet_ap, gsNil_ap, gsCons_ap, gTupD_ap, mSet_ap, mAsg_ap, mPar_ap, mExpr_ap, mRet_ap, mRetN_ap, mNext_ap, mBreak_ap, mCont_ap, mSeq_ap, mIf_ap, iSeq_ap, iRan_ap, iRan2_ap, iEnm_ap, iZp_ap, mFor_ap, mWhile_ap, mCall_ap, mkD_ap, fI_ap, fAdd_ap, fSub_ap, fMul_ap, fMod_ap, fDiv_ap, fPow_ap, fLt_ap, fLe_ap, fGt_ap, fGe_ap, fIsN_ap, fNotN_ap, fIsB_ap, fIx_ap, fAddX_ap, fSubX_ap, fMulX_ap, m1_ap, fNeg_ap, mB1_ap, fLen_ap, fAbs_ap, fInt_ap, fMin2_ap, fMax2_ap, fList_ap, fTuple_ap, fStr_ap, mMt_ap, mMtZ_ap, fAppend_ap, fInsert_ap, fExtend_ap, fPopAt_ap, mChain_ap, oNone_ap, oSome_ap, mSl_ap, gIx_ap, fInX_ap, fNotInX_ap, mIsi_ap, fEqX_ap, fNeX_ap, fAll_ap, fAny_ap, fSum_ap, fSorted_ap, fBest_ap, fIdx_ap, fRepr_ap, mPermA_ap, fBack_ap, gSplice_ap, mSortSet_ap, fMulY_ap, mTupRan_ap, mFz_ap, mGh_ap, fIsX_ap, mGhO_ap, ia_none_int, ia_none_bool, ia_none_list, ia_none_tuple, ia_none_str, ia_none_seq, ia_bool_int, ia_bool_bool, ia_bool_list, ia_bool_tuple, ia_bool_str, ia_bool_seq, ia_int_int, ia_int_bool, ia_int_list, ia_int_tuple, ia_int_str, ia_int_seq, ia_str_int, ia_str_bool, ia_str_list, ia_str_tuple, ia_str_str, ia_str_seq, ia_list_int, ia_list_bool, ia_list_list, ia_list_tuple, ia_list_str, ia_list_seq, ia_tuple_int, ia_tuple_bool, ia_tuple_list, ia_tuple_tuple, ia_tuple_str, ia_tuple_seq, mLst_ap, mTup_ap, mYes_ap, sizeLine_v, shaped_int, eqv_int, shaped_bool, eqv_bool, shaped_none, shaped_nilT, shaped_nilL, frz, frzAll, peek, res1, resAll, stoAll, argOf, argsOf, bors, wback, outAt, outsFrom, ownsStay, retv, wipeF, unwipe, sto, isNone, tyD, cY, cMul, cMod, cDiv, cPow, Cell.dat, b2n, frzS, frzL, fzV, atI, ixN, fMulL, ovB]
  | .int _, _, _ => simp [B_is_overfull, mVar_ap, mLit_ap, m2_ap, mB_ap, mAndT_ap, mOrT_ap, mNotT_ap, mAndV_ap, mOrV_ap, mNotV_ap, mIfE_ap, mNil_ap, mCons_ap, mDisp_ap, gSet_ap, gsNil_ap, gsCons_ap, gTupD_ap, mSet_ap, mAsg_ap, mPar_ap, mExpr_ap, mRet_ap, mRetN_ap, mNext_ap, mBreak_ap, mCont_ap, mSeq_ap, mIf_ap, iSeq_ap, iRan_ap, iRan2_ap, iEnm_ap, iZp_ap, mFor_ap, mWhile_ap, mCall_ap, mkD_ap, fI_ap, fAdd_ap, fSub_ap, fMul_ap, fMod_ap, fDiv_ap, fPow_ap, fLt_ap, fLe_ap, fGt_ap, fGe_ap, fIsN_ap, fNotN_ap, fIsB_ap, fIx_ap, fAddX_ap, fSubX_ap, fMulX_ap, m1_ap, fNeg_ap, mB1_ap, fLen_ap, fAbs_ap, fInt_ap, fMin2_ap, fMax2_ap, fList_ap, fTuple_ap, fStr_ap, mMt_ap, mMtZ_ap, fAppend_ap, fInsert_ap, fExtend_ap, fPopAt_ap, mChain_ap, oNone_ap, oSome_ap, mSl_ap, gIx_ap, fInX_ap, fNotInX_ap, mIsi_ap, fEqX_ap, fNeX_ap, fAll_ap, fAny_ap, fSum_ap, fSorted_ap, fBest_ap, fIdx_ap, fRepr_ap, mPermA_ap, fBack_ap, gSplice_ap, mSortSet_ap, fMulY_ap, mTupRan_ap, mFz_ap, mGh_ap, fIsX_ap, mGhO_ap, ia_none_int, ia_none_bool, ia_none_list, ia_none_tuple, ia_none_str, ia_none_seq, ia_bool_int, ia_bool_bool, ia_bool_list, ia_bool_tuple, ia_bool_str, ia_bool_seq, ia_int_int, ia_int_bool, ia_int_list, ia_int_tuple, ia_int_str, ia_int_seq, ia_str_int, ia_str_bool, ia_str_list, ia_str_tuple, ia_str_str, ia_str_seq, ia_list_int, ia_list_bool, ia_list_list, ia_list_tuple, ia_list_str, ia_list_seq, ia_tuple_int, ia_tuple_bool, ia_tuple_list, ia_tuple_tuple, ia_tuple_str, ia_tuple_seq, mLst_ap, mTup_ap, mYes_ap, sizeLine_v, shaped_int, eqv_int, shaped_bool, eqv_bool, shaped_none, shaped_nilT, shaped_nilL, frz, frzAll, peek, res1, resAll, stoAll, argOf, argsOf, bors, wback, outAt, outsFrom, ownsStay, retv, wipeF, unwipe, sto, isNone, tyD, cY, cMul, cMod, cDiv, cPow, Cell.dat, b2n, frzS, frzL, fzV, atI, ixN, fMulL, ovB]
  | .str _, _, _ => simp [B_is_overfull, mVar_ap, mLit_ap, m2_ap, mB_ap, mAndT_ap, mOrT_ap, mNotT_ap, mAndV_ap, mOrV_ap, mNotV_ap, mIfE_ap, mNil_ap, mCons_ap, mDisp_ap, gSet_ap, gsNil_ap, gsCons_ap, gTupD_ap, mSet_ap, mAsg_ap, mPar_ap, mExpr_ap, mRet_ap, mRetN_ap, mNext_ap, mBreak_ap, mCont_ap, mSeq_ap, mIf_ap, iSeq_ap, iRan_ap, iRan2_ap, iEnm_ap, iZp_ap, mFor_ap, mWhile_ap, mCall_ap, mkD_ap, fI_ap, fAdd_ap, fSub_ap, fMul_ap, fMod_ap, fDiv_ap, fPow_ap, fLt_ap, fLe_ap, fGt_ap, fGe_ap, fIsN_ap, fNotN_ap, fIsB_ap, fIx_ap, fAddX_ap, fSubX_ap, fMulX_ap, m1_ap, fNeg_ap, mB1_ap, fLen_ap, fAbs_ap, fInt_ap, fMin2_ap, fMax2_ap, fList_ap, fTuple_ap, fStr_ap, mMt_ap, mMtZ_ap, fAppend_ap, fInsert_ap, fExtend_ap, fPopAt_ap, mChain_ap, oNone_ap, oSome_ap, mSl_ap, gIx_ap, fInX_ap, fNotInX_ap, mIsi_ap, fEqX_ap, fNeX_ap, fAll_ap, fAny_ap, fSum_ap, fSorted_ap, fBest_ap, fIdx_ap, fRepr_ap, mPermA_ap, fBack_ap, gSplice_ap, mSortSet_ap, fMulY_ap, mTupRan_ap, mFz_ap, mGh_ap, fIsX_ap, mGhO_ap, ia_none_int, ia_none_bool, ia_none_list, ia_none_tuple, ia_none_str, ia_none_seq, ia_bool_int, ia_bool_bool, ia_bool_list, ia_bool_tuple, ia_bool_str, ia_bool_seq, ia_int_int, ia_int_bool, ia_int_list, ia_int_tuple, ia_int_str, ia_int_seq, ia_str_int, ia_str_bool, ia_str_list, ia_str_tuple, ia_str_str, ia_str_seq, ia_list_int, ia_list_bool, ia_list_list, ia_list_tuple, ia_list_str, ia_list_seq, ia_tuple_int, ia_tuple_bool, ia_tuple_list, ia_tuple_tuple, ia_tuple_str, ia_tuple_seq, mLst_ap, mTup_ap, mYes_ap, sizeLine_v, shaped_int, eqv_int, shaped_bool, eqv_bool, shaped_none, shaped_nilT, shaped_nilL, frz, frzAll, peek, res1, resAll, stoAll, argOf, argsOf, bors, wback, outAt, outsFrom, ownsStay, retv, wipeF, unwipe, sto, isNone, tyD, cY, cMul, cMod, cDiv, cPow, Cell.dat, b2n, frzS, frzL, fzV, atI, ixN, fMulL, ovB]
  | .list _, _, _ => simp [B_is_overfull, mVar_ap, mLit_ap, m2_ap, mB_ap, mAndT_ap, mOrT_ap, mNotT_ap, mAndV_ap, mOrV_ap, mNotV_ap, mIfE_ap, mNil_ap, mCons_ap, mDisp_ap, gSet_ap, gsNil_ap, gsCons_ap, gTupD_ap, mSet_ap, mAsg_ap, mPar_ap, mExpr_ap, mRet_ap, mRetN_ap, mNext_ap, mBreak_ap, mCont_ap, mSeq_ap, mIf_ap, iSeq_ap, iRan_ap, iRan2_ap, iEnm_ap, iZp_ap, mFor_ap, mWhile_ap, mCall_ap, mkD_ap, fI_ap, fAdd_ap, fSub_ap, fMul_ap, fMod_ap, fDiv_ap, fPow_ap, fLt_ap, fLe_ap, fGt_ap, fGe_ap, fIsN_ap, fNotN_ap, fIsB_ap, fIx_ap, fAddX_ap, fSubX_ap, fMulX_ap, m1_ap, fNeg_ap, mB1_ap, fLen_ap, fAbs_ap, fInt_ap, fMin2_ap, fMax2_ap, fList_ap, fTuple_ap, fStr_ap, mMt_ap, mMtZ_ap, fAppend_ap, fInsert_ap, fExtend_ap, fPopAt_ap, mChain_ap, oNone_ap, oSome_ap, mSl_ap, gIx_ap, fInX_ap, fNotInX_ap, mIsi_ap, fEqX_ap, fNeX_ap, fAll_ap, fAny_ap, fSum_ap, fSorted_ap, fBest_ap, fIdx_ap, fRepr_ap, mPermA_ap, fBack_ap, gSplice_ap, mSortSet_ap, fMulY_ap, mTupRan_ap, mFz_ap, mGh_ap, fIsX_ap, mGhO_ap, ia_none_int, ia_none_bool, ia_none_list, ia_none_tuple, ia_none_str, ia_none_seq, ia_bool_int, ia_bool_bool, ia_bool_list, ia_bool_tuple, ia_bool_str, ia_bool_seq, ia_int_int, ia_int_bool, ia_int_list, ia_int_tuple, ia_int_str, ia_int_seq, ia_str_int, ia_str_bool, ia_str_list, ia_str_tuple, ia_str_str, ia_str_seq, ia_list_int, ia_list_bool, ia_list_list, ia_list_tuple, ia_list_str, ia_list_seq, ia_tuple_int, ia_tuple_bool, ia_tuple_list, ia_tuple_tuple, ia_tuple_str, ia_tuple_seq, mLst_ap, mTup_ap, mYes_ap, sizeLine_v, shaped_int, eqv_int, shaped_bool, eqv_bool, shaped_none, shaped_nilT, shaped_nilL, frz, frzAll, peek, res1, resAll, stoAll, argOf, argsOf, bors, wback, outAt, outsFrom, ownsStay, retv, wipeF, unwipe, sto, isNone, tyD, cY, cMul, cMod, cDiv, cPow, Cell.dat, b2n, frzS, frzL, fzV, atI, ixN, fMulL, ovB]
  | .dict _, hd, _ => simp [Pl2, plainD] at hd
  | .tuple [], _, _ => simp [B_is_overfull, mVar_ap, mLit_ap, m2_ap, mB_ap, mAndT_ap, mOrT_ap, mNotT_ap, mAndV_ap, mOrV_ap, mNotV_ap, mIfE_ap, mNil_ap, mCons_ap, mDisp_ap, gSet_ap, gsNil_ap, gsCons_ap, gTupD_ap, mSet_ap, mAsg_ap, mPar_ap, mExpr_ap, mRet_ap, mRetN_ap, mNext_ap, mBreak_ap, mCont_ap, mSeq_ap, mIf_ap, iSeq_ap, iRan_ap, iRan2_ap, iEnm_ap, iZp_ap, mFor_ap, mWhile_ap, mCall_ap, mkD_ap, fI_ap, fAdd_ap, fSub_ap, fMul_ap, fMod_ap, fDiv_ap, fPow_ap, fLt_ap, fLe_ap, fGt_ap, fGe_ap, fIsN_ap, fNotN_ap, fIsB_ap, fIx_ap, fAddX_ap, fSubX_ap, fMulX_ap, m1_ap, fNeg_ap, mB1_ap, fLen_ap, fAbs_ap, fInt_ap, fMin2_ap, fMax2_ap, fList_ap, fTuple_ap, fStr_ap, mMt_ap, mMtZ_ap, fAppend_ap, fInsert_ap, fExtend_ap, fPopAt_ap, mChain_ap, oNone_ap, oSome_ap, mSl_ap, gIx_ap, fInX_ap, fNotInX_ap, mIsi_ap, fEqX_ap, fNeX_ap, fAll_ap, fAny_ap, fSum_ap, fSorted_ap, fBest_ap, fIdx_ap, fRepr_ap, mPermA_ap, fBack_ap, gSplice_ap, mSortSet_ap, fMulY_ap, mTupRan_ap, mFz_ap, mGh_ap, fIsX_ap, mGhO_ap, ia_none_int, ia_none_bool, ia_none_list, ia_none_tuple, ia_none_str, ia_none_seq, ia_bool_int, ia_bool_bool, ia_bool_list, ia_bool_tuple, ia_bool_str, ia_bool_seq, ia_int_int, ia_int_bool, ia_int_list, ia_int_tuple, ia_int_str, ia_int_seq, ia_str_int, ia_str_bool, ia_str_list, ia_str_tuple, ia_str_str, ia_str_seq, ia_list_int, ia_list_bool, ia_list_list, ia_list_tuple, ia_list_str, ia_list_seq, ia_tuple_int, ia_tuple_bool, ia_tuple_list, ia_tuple_tuple, ia_tuple_str, ia_tuple_seq, mLst_ap, mTup_ap, mYes_ap, sizeLine_v, shaped_int, eqv_int, shaped_bool, eqv_bool, shaped_none, shaped_nilT, shaped_nilL, frz, frzAll, peek, res1, resAll, stoAll, argOf, argsOf, bors, wback, outAt, outsFrom, ownsStay, retv, wipeF, unwipe, sto, isNone, tyD, cY, cMul, cMod, cDiv, cPow, Cell.dat, b2n, frzS, frzL, fzV, atI, ixN, fMulL, ovB]
  | .tuple [_], _, _ => simp [B_is_overfull, mVar_ap, mLit_ap, m2_ap, mB_ap, mAndT_ap, mOrT_ap, mNotT_ap, mAndV_ap, mOrV_ap, mNotV_ap, mIfE_ap, mNil_ap, mCons_ap, mDisp_ap, gSet_ap, gsNil_ap, gsCons_ap, gTupD_ap, mSet_ap, mAsg_ap, mPar_ap, mExpr_ap, mRet_ap, mRetN_ap, mNext_ap, mBreak_ap, mCont_ap, mSeq_ap, mIf_ap, iSeq_ap, iRan_ap, iRan2_ap, iEnm_ap, iZp_ap, mFor_ap, mWhile_ap, mCall_ap, mkD_ap, fI_ap, fAdd_ap, fSub_ap, fMul_ap, fMod_ap, fDiv_ap, fPow_ap, fLt_ap, fLe_ap, fGt_ap, fGe_ap, fIsN_ap, fNotN_ap, fIsB_ap, fIx_ap, fAddX_ap, fSubX_ap, fMulX_ap, m1_ap, fNeg_ap, mB1_ap, fLen_ap, fAbs_ap, fInt_ap, fMin2_ap, fMax2_ap, fList_ap, fTuple_ap, fStr_ap, mMt_ap, mMtZ_ap, fAppend_ap, fInsert_ap, fExtend_ap, fPopAt_ap, mChain_ap, oNone_ap, oSome_ap, mSl_ap, gIx_ap, fInX_ap, fNotInX_ap, mIsi_ap, fEqX_ap, fNeX_ap, fAll_ap, fAny_ap, fSum_ap, fSorted_ap, fBest_ap, fIdx_ap, fRepr_ap, mPermA_ap, fBack_ap, gSplice_ap, mSortSet_ap, fMulY_ap, mTupRan_ap, mFz_ap, mGh_ap, fIsX_ap, mGhO_ap, ia_none_int, ia_none_bool, ia_none_list, ia_none_tuple, ia_none_str, ia_none_seq, ia_bool_int, ia_bool_bool, ia_bool_list, ia_bool_tuple, ia_bool_str, ia_bool_seq, ia_int_int, ia_int_bool, ia_int_list, ia_int_tuple, ia_int_str, ia_int_seq, ia_str_int, ia_str_bool, ia_str_list, ia_str_tuple, ia_str_str, ia_str_seq, ia_list_int, ia_list_bool, ia_list_list, ia_list_tuple, ia_list_str, ia_list_seq, ia_tuple_int, ia_tuple_bool, ia_tuple_list, ia_tuple_tuple, ia_tuple_str, ia_tuple_seq, mLst_ap, mTup_ap, mYes_ap, sizeLine_v, shaped_int, eqv_int, shaped_bool, eqv_bool, shaped_none, shaped_nilT, shaped_nilL, frz, frzAll, peek, res1, resAll, stoAll, argOf, argsOf, bors, wback, outAt, outsFrom, ownsStay, retv, wipeF, unwipe, sto, isNone, tyD, cY, cMul, cMod, cDiv, cPow, Cell.dat, b2n, frzS, frzL, fzV, atI, ixN, fMulL, ovB]
  | .tuple (_ :: _ :: _ :: r), _, _ =>
    have : ¬ ((r.length : Int) + 1 + 1 + 1 = 2) := by omega
    simp [B_is_overfull, mVar_ap, mLit_ap, m2_ap, mB_ap, mAndT_ap, mOrT_ap, mNotT_ap, mAndV_ap, mOrV_ap, mNotV_ap, mIfE_ap, mNil_ap, mCons_ap, mDisp_ap, gSet_ap, gsNil_ap, gsCons_ap, gTupD_ap, mSet_ap, mAsg_ap, mPar_ap, mExpr_ap, mRet_ap, mRetN_ap, mNext_ap, mBreak_ap, mCont_ap, mSeq_ap, mIf_ap, iSeq_ap, iRan_ap, iRan2_ap, iEnm_ap, iZp_ap, mFor_ap, mWhile_ap, mCall_ap, mkD_ap, fI_ap, fAdd_ap, fSub_ap, fMul_ap, fMod_ap, fDiv_ap, fPow_ap, fLt_ap, fLe_ap, fGt_ap, fGe_ap, fIsN_ap, fNotN_ap, fIsB_ap, fIx_ap, fAddX_ap, fSubX_ap, fMulX_ap, m1_ap, fNeg_ap, mB1_ap, fLen_ap, fAbs_ap, fInt_ap, fMin2_ap, fMax2_ap, fList_ap, fTuple_ap, fStr_ap, mMt_ap, mMtZ_ap, fAppend_ap, fInsert_ap, fExtend_ap, fPopAt_ap, mChain_ap, oNone_ap, oSome_ap, mSl_ap, gIx_ap, fInX_ap, fNotInX_ap, mIsi_ap, fEqX_ap, fNeX_ap, fAll_ap, fAny_ap, fSum_ap, fSorted_ap, fBest_ap, fIdx_ap, fRepr_ap, mPermA_ap, fBack_ap, gSplice_ap, mSortSet_ap, fMulY_ap, mTupRan_ap, mFz_ap, mGh_ap, fIsX_ap, mGhO_ap, ia_none_int, ia_none_bool, ia_none_list, ia_none_tuple, ia_none_str, ia_none_seq, ia_bool_int, ia_bool_bool, ia_bool_list, ia_bool_tuple, ia_bool_str, ia_bool_seq, ia_int_int, ia_int_bool, ia_int_list, ia_int_tuple, ia_int_str, ia_int_seq, ia_str_int, ia_str_bool, ia_str_list, ia_str_tuple, ia_str_str, ia_str_seq, ia_list_int, ia_list_bool, ia_list_list, ia_list_tuple, ia_list_str, ia_list_seq, ia_tuple_int, ia_tuple_bool, ia_tuple_list, ia_tuple_tuple, ia_tuple_str, ia_tuple_seq, mLst_ap, mTup_ap, mYes_ap, sizeLine_v, shaped_int, eqv_int, shaped_bool, eqv_bool, shaped_none, shaped_nilT, shaped_nilL, frz, frzAll, peek, res1, resAll, stoAll, argOf, argsOf, bors, wback, outAt, outsFrom, ownsStay, retv, wipeF, unwipe, sto, isNone, tyD, cY, cMul, cMod, cDiv, cPow, Cell.dat, b2n, frzS, frzL, fzV, atI, ixN, fMulL, ovB, this]
  | .tuple [x, y], hd, pair =>
    have p := pair x y rfl
    by_cases hx : numB x = true
    · by_cases hy : numB y = true
      · obtain ⟨a, rfl⟩ : ∃ a, x = .int a := by cases x <;> simp [numB] at hx; exact ⟨_, rfl⟩
        obtain ⟨b, rfl⟩ : ∃ b, y = .int b := by cases y <;> simp [numB] at hy; exact ⟨_, rfl⟩
        simp [B_is_overfull, mVar_ap, mLit_ap, m2_ap, mB_ap, mAndT_ap, mOrT_ap, mNotT_ap, mAndV_ap, mOrV_ap, mNotV_ap, mIfE_ap, mNil_ap, mCons_ap, mDisp_ap, gSet_ap, gsNil_ap, gsCons_ap, gTupD_ap, mSet_ap, mAsg_ap, mPar_ap, mExpr_ap, mRet_ap, mRetN_ap, mNext_ap, mBreak_ap, mCont_ap, mSeq_ap, mIf_ap, iSeq_ap, iRan_ap, iRan2_ap, iEnm_ap, iZp_ap, mFor_ap, mWhile_ap, mCall_ap, mkD_ap, fI_ap, fAdd_ap, fSub_ap, fMul_ap, fMod_ap, fDiv_ap, fPow_ap, fLt_ap, fLe_ap, fGt_ap, fGe_ap, fIsN_ap, fNotN_ap, fIsB_ap, fIx_ap, fAddX_ap, fSubX_ap, fMulX_ap, m1_ap, fNeg_ap, mB1_ap, fLen_ap, fAbs_ap, fInt_ap, fMin2_ap, fMax2_ap, fList_ap, fTuple_ap, fStr_ap, mMt_ap, mMtZ_ap, fAppend_ap, fInsert_ap, fExtend_ap, fPopAt_ap, mChain_ap, oNone_ap, oSome_ap, mSl_ap, gIx_ap, fInX_ap, fNotInX_ap, mIsi_ap, fEqX_ap, fNeX_ap, fAll_ap, fAny_ap, fSum_ap, fSorted_ap, fBest_ap, fIdx_ap, fRepr_ap, mPermA_ap, fBack_ap, gSplice_ap, mSortSet_ap, fMulY_ap, mTupRan_ap, mFz_ap, mGh_ap, fIsX_ap, mGhO_ap, ia_none_int, ia_none_bool, ia_none_list, ia_none_tuple, ia_none_str, ia_none_seq, ia_bool_int, ia_bool_bool, ia_bool_list, ia_bool_tuple, ia_bool_str, ia_bool_seq, ia_int_int, ia_int_bool, ia_int_list, ia_int_tuple, ia_int_str, ia_int_seq, ia_str_int, ia_str_bool, ia_str_list, ia_str_tuple, ia_str_str, ia_str_seq, ia_list_int, ia_list_bool, ia_list_list, ia_list_tuple, ia_list_str, ia_list_seq, ia_tuple_int, ia_tuple_bool, ia_tuple_list, ia_tuple_tuple, ia_tuple_str, ia_tuple_seq, mLst_ap, mTup_ap, mYes_ap, sizeLine_v, shaped_int, eqv_int, shaped_bool, eqv_bool, shaped_none, shaped_nilT, shaped_nilL, frz, frzAll, peek, res1, resAll, stoAll, argOf, argsOf, bors, wback, outAt, outsFrom, ownsStay, retv, wipeF, unwipe, sto, isNone, tyD, cY, cMul, cMod, cDiv, cPow, Cell.dat, b2n, frzS, frzL, fzV, atI, ixN, fMulL, dShop, numB, boolsD] at p ⊢
        simp [p, boolsD]
        rw [lc_pure dPair (fun q => decide (a ≤ q.1) && decide (q.2 ≤ b)) dPair S.ranges]
        case hmi => rfl
        case hn => simp
        case hw => rfl
        case hu => rfl
        case hl => omega
        case h => exact fun q _ => ⟨_, rfl, by by_cases c1 : a ≤ q.1 <;> simp [mVar_ap, mLit_ap, m2_ap, mB_ap, mAndT_ap, mOrT_ap, mNotT_ap, mAndV_ap, mOrV_ap, mNotV_ap, mIfE_ap, mNil_ap, mCons_ap, mDisp_ap, gSet_ap, gsNil_ap, gsCons_ap, gTupD_ap, mSet_ap, mAsg_ap, mPar_ap, mExpr_ap, mRet_ap, mRetN_ap, mNext_ap, mBreak_ap, mCont_ap, mSeq_ap, mIf_ap, iSeq_ap, iRan_ap, iRan2_ap, iEnm_ap, iZp_ap, mFor_ap, mWhile_ap, mCall_ap, mkD_ap, fI_ap, fAdd_ap, fSub_ap, fMul_ap, fMod_ap, fDiv_ap, fPow_ap, fLt_ap, fLe_ap, fGt_ap, fGe_ap, fIsN_ap, fNotN_ap, fIsB_ap, fIx_ap, fAddX_ap, fSubX_ap, fMulX_ap, m1_ap, fNeg_ap, mB1_ap, fLen_ap, fAbs_ap, fInt_ap, fMin2_ap, fMax2_ap, fList_ap, fTuple_ap, fStr_ap, mMt_ap, mMtZ_ap, fAppend_ap, fInsert_ap, fExtend_ap, fPopAt_ap, mChain_ap, oNone_ap, oSome_ap, mSl_ap, gIx_ap, fInX_ap, fNotInX_ap, mIsi_ap, fEqX_ap, fNeX_ap, fAll_ap, fAny_ap, fSum_ap, fSorted_ap, fBest_ap, fIdx_ap, fRepr_ap, mPermA_ap, fBack_ap, gSplice_ap, mSortSet_ap, fMulY_ap, mTupRan_ap, mFz_ap, mGh_ap, fIsX_ap, mGhO_ap, ia_none_int, ia_none_bool, ia_none_list, ia_none_tuple, ia_none_str, ia_none_seq, ia_bool_int, ia_bool_bool, ia_bool_list, ia_bool_tuple, ia_bool_str, ia_bool_seq, ia_int_int, ia_int_bool, ia_int_list, ia_int_tuple, ia_int_str, ia_int_seq, ia_str_int, ia_str_bool, ia_str_list, ia_str_tuple, ia_str_str, ia_str_seq, ia_list_int, ia_list_bool, ia_list_list, ia_list_tuple, ia_list_str, ia_list_seq, ia_tuple_int, ia_tuple_bool, ia_tuple_list, ia_tuple_tuple, ia_tuple_str, ia_tuple_seq, mLst_ap, mTup_ap, mYes_ap, sizeLine_v, shaped_int, eqv_int, shaped_bool, eqv_bool, shaped_none, shaped_nilT, shaped_nilL, frz, frzAll, peek, res1, resAll, stoAll, argOf, argsOf, bors, wback, outAt, outsFrom, ownsStay, retv, wipeF, unwipe, sto, isNone, tyD, cY, cMul, cMod, cDiv, cPow, Cell.dat, b2n, frzS, frzL, fzV, atI, ixN, fMulL, dPair, c1], fun _ => ⟨_, rfl, rfl⟩, rfl⟩
        simp [mVar_ap, mLit_ap, m2_ap, mB_ap, mAndT_ap, mOrT_ap, mNotT_ap, mAndV_ap, mOrV_ap, mNotV_ap, mIfE_ap, mNil_ap, mCons_ap, mDisp_ap, gSet_ap, gsNil_ap, gsCons_ap, gTupD_ap, mSet_ap, mAsg_ap, mPar_ap, mExpr_ap, mRet_ap, mRetN_ap, mNext_ap, mBreak_ap, mCont_ap, mSeq_ap, mIf_ap, iSeq_ap, iRan_ap, iRan2_ap, iEnm_ap, iZp_ap, mFor_ap, mWhile_ap, mCall_ap, mkD_ap, fI_ap, fAdd_ap, fSub_ap, fMul_ap, fMod_ap, fDiv_ap, fPow_ap, fLt_ap, fLe_ap, fGt_ap, fGe_ap, fIsN_ap, fNotN_ap, fIsB_ap, fIx_ap, fAddX_ap, fSubX_ap, fMulX_ap, m1_ap, fNeg_ap, mB1_ap, fLen_ap, fAbs_ap, fInt_ap, fMin2_ap, fMax2_ap, fList_ap, fTuple_ap, fStr_ap, mMt_ap, mMtZ_ap, fAppend_ap, fInsert_ap, fExtend_ap, fPopAt_ap, mChain_ap, oNone_ap, oSome_ap, mSl_ap, gIx_ap, fInX_ap, fNotInX_ap, mIsi_ap, fEqX_ap, fNeX_ap, fAll_ap, fAny_ap, fSum_ap, fSorted_ap, fBest_ap, fIdx_ap, fRepr_ap, mPermA_ap, fBack_ap, gSplice_ap, mSortSet_ap, fMulY_ap, mTupRan_ap, mFz_ap, mGh_ap, fIsX_ap, mGhO_ap, ia_none_int, ia_none_bool, ia_none_list, ia_none_tuple, ia_none_str, ia_none_seq, ia_bool_int, ia_bool_bool, ia_bool_list, ia_bool_tuple, ia_bool_str, ia_bool_seq, ia_int_int, ia_int_bool, ia_int_list, ia_int_tuple, ia_int_str, ia_int_seq, ia_str_int, ia_str_bool, ia_str_list, ia_str_tuple, ia_str_str, ia_str_seq, ia_list_int, ia_list_bool, ia_list_list, ia_list_tuple, ia_list_str, ia_list_seq, ia_tuple_int, ia_tuple_bool, ia_tuple_list, ia_tuple_tuple, ia_tuple_str, ia_tuple_seq, mLst_ap, mTup_ap, mYes_ap, sizeLine_v, shaped_int, eqv_int, shaped_bool, eqv_bool, shaped_none, shaped_nilT, shaped_nilL, frz, frzAll, peek, res1, resAll, stoAll, argOf, argsOf, bors, wback, outAt, outsFrom, ownsStay, retv, wipeF, unwipe, sto, isNone, tyD, cY, cMul, cMod, cDiv, cPow, Cell.dat, b2n, frzS, frzL, fzV, atI, ixN, fMulL]
        rw [lc_pure PyData.int (fun x => decide (a ≤ x) && decide (x ≤ b)) PyData.int S.sizes]
        case hmi => rfl
        case hn => simp
        case hw => rfl
        case hu => rfl
        case hl => omega
        case h => exact fun x _ => ⟨_, rfl, by by_cases c1 : a ≤ x <;> simp [mVar_ap, mLit_ap, m2_ap, mB_ap, mAndT_ap, mOrT_ap, mNotT_ap, mAndV_ap, mOrV_ap, mNotV_ap, mIfE_ap, mNil_ap, mCons_ap, mDisp_ap, gSet_ap, gsNil_ap, gsCons_ap, gTupD_ap, mSet_ap, mAsg_ap, mPar_ap, mExpr_ap, mRet_ap, mRetN_ap, mNext_ap, mBreak_ap, mCont_ap, mSeq_ap, mIf_ap, iSeq_ap, iRan_ap, iRan2_ap, iEnm_ap, iZp_ap, mFor_ap, mWhile_ap, mCall_ap, mkD_ap, fI_ap, fAdd_ap, fSub_ap, fMul_ap, fMod_ap, fDiv_ap, fPow_ap, fLt_ap, fLe_ap, fGt_ap, fGe_ap, fIsN_ap, fNotN_ap, fIsB_ap, fIx_ap, fAddX_ap, fSubX_ap, fMulX_ap, m1_ap, fNeg_ap, mB1_ap, fLen_ap, fAbs_ap, fInt_ap, fMin2_ap, fMax2_ap, fList_ap, fTuple_ap, fStr_ap, mMt_ap, mMtZ_ap, fAppend_ap, fInsert_ap, fExtend_ap, fPopAt_ap, mChain_ap, oNone_ap, oSome_ap, mSl_ap, gIx_ap, fInX_ap, fNotInX_ap, mIsi_ap, fEqX_ap, fNeX_ap, fAll_ap, fAny_ap, fSum_ap, fSorted_ap, fBest_ap, fIdx_ap, fRepr_ap, mPermA_ap, fBack_ap, gSplice_ap, mSortSet_ap, fMulY_ap, mTupRan_ap, mFz_ap, mGh_ap, fIsX_ap, mGhO_ap, ia_none_int, ia_none_bool, ia_none_list, ia_none_tuple, ia_none_str, ia_none_seq, ia_bool_int, ia_bool_bool, ia_bool_list, ia_bool_tuple, ia_bool_str, ia_bool_seq, ia_int_int, ia_int_bool, ia_int_list, ia_int_tuple, ia_int_str, ia_int_seq, ia_str_int, ia_str_bool, ia_str_list, ia_str_tuple, ia_str_str, ia_str_seq, ia_list_int, ia_list_bool, ia_list_list, ia_list_tuple, ia_list_str, ia_list_seq, ia_tuple_int, ia_tuple_bool, ia_tuple_list, ia_tuple_tuple, ia_tuple_str, ia_tuple_seq, mLst_ap, mTup_ap, mYes_ap, sizeLine_v, shaped_int, eqv_int, shaped_bool, eqv_bool, shaped_none, shaped_nilT, shaped_nilL, frz, frzAll, peek, res1, resAll, stoAll, argOf, argsOf, bors, wback, outAt, outsFrom, ownsStay, retv, wipeF, unwipe, sto, isNone, tyD, cY, cMul, cMod, cDiv, cPow, Cell.dat, b2n, frzS, frzL, fzV, atI, ixN, fMulL, c1], fun _ => ⟨_, rfl, rfl⟩, rfl⟩
        simp [mVar_ap, mLit_ap, m2_ap, mB_ap, mAndT_ap, mOrT_ap, mNotT_ap, mAndV_ap, mOrV_ap, mNotV_ap, mIfE_ap, mNil_ap, mCons_ap, mDisp_ap, gSet_ap, gsNil_ap, gsCons_ap, gTupD_ap, mSet_ap, mAsg_ap, mPar_ap, mExpr_ap, mRet_ap, mRetN_ap, mNext_ap, mBreak_ap, mCont_ap, mSeq_ap, mIf_ap, iSeq_ap, iRan_ap, iRan2_ap, iEnm_ap, iZp_ap, mFor_ap, mWhile_ap, mCall_ap, mkD_ap, fI_ap, fAdd_ap, fSub_ap, fMul_ap, fMod_ap, fDiv_ap, fPow_ap, fLt_ap, fLe_ap, fGt_ap, fGe_ap, fIsN_ap, fNotN_ap, fIsB_ap, fIx_ap, fAddX_ap, fSubX_ap, fMulX_ap, m1_ap, fNeg_ap, mB1_ap, fLen_ap, fAbs_ap, fInt_ap, fMin2_ap, fMax2_ap, fList_ap, fTuple_ap, fStr_ap, mMt_ap, mMtZ_ap, fAppend_ap, fInsert_ap, fExtend_ap, fPopAt_ap, mChain_ap, oNone_ap, oSome_ap, mSl_ap, gIx_ap, fInX_ap, fNotInX_ap, mIsi_ap, fEqX_ap, fNeX_ap, fAll_ap, fAny_ap, fSum_ap, fSorted_ap, fBest_ap, fIdx_ap, fRepr_ap, mPermA_ap, fBack_ap, gSplice_ap, mSortSet_ap, fMulY_ap, mTupRan_ap, mFz_ap, mGh_ap, fIsX_ap, mGhO_ap, ia_none_int, ia_none_bool, ia_none_list, ia_none_tuple, ia_none_str, ia_none_seq, ia_bool_int, ia_bool_bool, ia_bool_list, ia_bool_tuple, ia_bool_str, ia_bool_seq, ia_int_int, ia_int_bool, ia_int_list, ia_int_tuple, ia_int_str, ia_int_seq, ia_str_int, ia_str_bool, ia_str_list, ia_str_tuple, ia_str_str, ia_str_seq, ia_list_int, ia_list_bool, ia_list_list, ia_list_tuple, ia_list_str, ia_list_seq, ia_tuple_int, ia_tuple_bool, ia_tuple_list, ia_tuple_tuple, ia_tuple_str, ia_tuple_seq, mLst_ap, mTup_ap, mYes_ap, sizeLine_v, shaped_int, eqv_int, shaped_bool, eqv_bool, shaped_none, shaped_nilT, shaped_nilL, frz, frzAll, peek, res1, resAll, stoAll, argOf, argsOf, bors, wback, outAt, outsFrom, ownsStay, retv, wipeF, unwipe, sto, isNone, tyD, cY, cMul, cMod, cDiv, cPow, Cell.dat, b2n, frzS, frzL, fzV, atI, ixN, fMulL, ovB, Shop.lack, Shop.inR, Shop.inS]
        try omega
      · have hy' : numB y = false := by simpa using hy
        have : ovB S (.tuple [x, y]) = false := by cases x <;> cases y <;> simp [numB] at hx hy' <;> rfl
        simp [B_is_overfull, mVar_ap, mLit_ap, m2_ap, mB_ap, mAndT_ap, mOrT_ap, mNotT_ap, mAndV_ap, mOrV_ap, mNotV_ap, mIfE_ap, mNil_ap, mCons_ap, mDisp_ap, gSet_ap, gsNil_ap, gsCons_ap, gTupD_ap, mSet_ap, mAsg_ap, mPar_ap, mExpr_ap, mRet_ap, mRetN_ap, mNext_ap, mBreak_ap, mCont_ap, mSeq_ap, mIf_ap, iSeq_ap, iRan_ap, iRan2_ap, iEnm_ap, iZp_ap, mFor_ap, mWhile_ap, mCall_ap, mkD_ap, fI_ap, fAdd_ap, fSub_ap, fMul_ap, fMod_ap, fDiv_ap, fPow_ap, fLt_ap, fLe_ap, fGt_ap, fGe_ap, fIsN_ap, fNotN_ap, fIsB_ap, fIx_ap, fAddX_ap, fSubX_ap, fMulX_ap, m1_ap, fNeg_ap, mB1_ap, fLen_ap, fAbs_ap, fInt_ap, fMin2_ap, fMax2_ap, fList_ap, fTuple_ap, fStr_ap, mMt_ap, mMtZ_ap, fAppend_ap, fInsert_ap, fExtend_ap, fPopAt_ap, mChain_ap, oNone_ap, oSome_ap, mSl_ap, gIx_ap, fInX_ap, fNotInX_ap, mIsi_ap, fEqX_ap, fNeX_ap, fAll_ap, fAny_ap, fSum_ap, fSorted_ap, fBest_ap, fIdx_ap, fRepr_ap, mPermA_ap, fBack_ap, gSplice_ap, mSortSet_ap, fMulY_ap, mTupRan_ap, mFz_ap, mGh_ap, fIsX_ap, mGhO_ap, ia_none_int, ia_none_bool, ia_none_list, ia_none_tuple, ia_none_str, ia_none_seq, ia_bool_int, ia_bool_bool, ia_bool_list, ia_bool_tuple, ia_bool_str, ia_bool_seq, ia_int_int, ia_int_bool, ia_int_list, ia_int_tuple, ia_int_str, ia_int_seq, ia_str_int, ia_str_bool, ia_str_list, ia_str_tuple, ia_str_str, ia_str_seq, ia_list_int, ia_list_bool, ia_list_list, ia_list_tuple, ia_list_str, ia_list_seq, ia_tuple_int, ia_tuple_bool, ia_tuple_list, ia_tuple_tuple, ia_tuple_str, ia_tuple_seq, mLst_ap, mTup_ap, mYes_ap, sizeLine_v, shaped_int, eqv_int, shaped_bool, eqv_bool, shaped_none, shaped_nilT, shaped_nilL, frz, frzAll, peek, res1, resAll, stoAll, argOf, argsOf, bors, wback, outAt, outsFrom, ownsStay, retv, wipeF, unwipe, sto, isNone, tyD, cY, cMul, cMod, cDiv, cPow, Cell.dat, b2n, frzS, frzL, fzV, atI, ixN, fMulL, p, boolsD, hy', this]
    · have hx' : numB x = false := by simpa using hx
      have : ovB S (.tuple [x, y]) = false := by cases x <;> simp [numB] at hx' <;> rfl
      simp [B_is_overfull, mVar_ap, mLit_ap, m2_ap, mB_ap, mAndT_ap, mOrT_ap, mNotT_ap, mAndV_ap, mOrV_ap, mNotV_ap, mIfE_ap, mNil_ap, mCons_ap, mDisp_ap, gSet_ap, gsNil_ap, gsCons_ap, gTupD_ap, mSet_ap, mAsg_ap, mPar_ap, mExpr_ap, mRet_ap, mRetN_ap, mNext_ap, mBreak_ap, mCont_ap, mSeq_ap, mIf_ap, iSeq_ap, iRan_ap, iRan2_ap, iEnm_ap, iZp_ap, mFor_ap, mWhile_ap, mCall_ap, mkD_ap, fI_ap, fAdd_ap, fSub_ap, fMul_ap, fMod_ap, fDiv_ap, fPow_ap, fLt_ap, fLe_ap, fGt_ap, fGe_ap, fIsN_ap, fNotN_ap, fIsB_ap, fIx_ap, fAddX_ap, fSubX_ap, fMulX_ap, m1_ap, fNeg_ap, mB1_ap, fLen_ap, fAbs_ap, fInt_ap, fMin2_ap, fMax2_ap, fList_ap, fTuple_ap, fStr_ap, mMt_ap, mMtZ_ap, fAppend_ap, fInsert_ap, fExtend_ap, fPopAt_ap, mChain_ap, oNone_ap, oSome_ap, mSl_ap, gIx_ap, fInX_ap, fNotInX_ap, mIsi_ap, fEqX_ap, fNeX_ap, fAll_ap, fAny_ap, fSum_ap, fSorted_ap, fBest_ap, fIdx_ap, fRepr_ap, mPermA_ap, fBack_ap, gSplice_ap, mSortSet_ap, fMulY_ap, mTupRan_ap, mFz_ap, mGh_ap, fIsX_ap, mGhO_ap, ia_none_int, ia_none_bool, ia_none_list, ia_none_tuple, ia_none_str, ia_none_seq, ia_bool_int, ia_bool_bool, ia_bool_list, ia_bool_tuple, ia_bool_str, ia_bool_seq, ia_int_int, ia_int_bool, ia_int_list, ia_int_tuple, ia_int_str, ia_int_seq, ia_str_int, ia_str_bool, ia_str_list, ia_str_tuple, ia_str_str, ia_str_seq, ia_list_int, ia_list_bool, ia_list_list, ia_list_tuple, ia_list_str, ia_list_seq, ia_tuple_int, ia_tuple_bool, ia_tuple_list, ia_tuple_tuple, ia_tuple_str, ia_tuple_seq, mLst_ap, mTup_ap, mYes_ap, sizeLine_v, shaped_int, eqv_int, shaped_bool, eqv_bool, shaped_none, shaped_nilT, shaped_nilL, frz, frzAll, peek, res1, resAll, stoAll, argOf, argsOf, bors, wback, outAt, outsFrom, ownsStay, retv, wipeF, unwipe, sto, isNone, tyD, cY, cMul, cMod, cDiv, cPow, Cell.dat, b2n, frzS, frzL, fzV, atI, ixN, fMulL, p, boolsD, hx', this]
/-! the whole -/
theorem sortU_mem {x : Int} : ∀ {l : List Int}, x ∈ sortU l → x ∈ l := by
  have ins : ∀ {y : Int} {l : List Int}, x ∈ insU y l → x = y ∨ x ∈ l := by
    intro y l
    induction l with
    | nil => intro h; simp [insU] at h; exact .inl h
    | cons z l ih =>
      intro h
      simp only [insU] at h
      split at h
      · rcases List.mem_cons.1 h with h | h
        · exact .inl h
        · exact .inr h
      · split at h
        · exact .inr h
        · rcases List.mem_cons.1 h with h | h
          · exact .inr (by simp [h])
          · rcases ih h with h | h
            · exact .inl h
            · exact .inr (by simp [h])
  intro l
  induction l with
  | nil => intro h; simp [sortU] at h
  | cons y l ih =>
    intro h
    rcases ins (show x ∈ insU y (sortU l) from h) with h | h
    · simp [h]
    · simp [ih h]
theorem sortU_len : ∀ l : List Int, (sortU l).length ≤ l.length := by
  have ins : ∀ (y : Int) (l : List Int), (insU y l).length ≤ l.length + 1 := by
    intro y l
    induction l with
    | nil => simp [insU]
    | cons z l ih =>
      simp only [insU]
      split
      · simp
      · split
        · simp
        · simp; exact ih
  intro l
  induction l with
  | nil => simp [sortU]
  | cons y l ih =>
    have := ins y (sortU l)
    show (insU y (sortU l)).length ≤ _
    simp; omega
theorem sortU_ne {y : Int} {l : List Int} : sortU (y :: l) ≠ [] := by
  have ins : ∀ (y : Int) (l : List Int), insU y l ≠ [] := by
    intro y l
    cases l with
    | nil => simp [insU]
    | cons z l => simp only [insU]; split <;> (try split) <;> simp
  exact ins y (sortU l)
/-- what the matters are, behind k bends -/
def Mt (k : Nat) (x : PyData) : Prop := Ok (4 + k) (10 ^ 21 + k) (1 + 2 * k) x ∧ sz x + 1000 ≤ 2000 * 2 ^ k
theorem Mt.mono {k : Nat} {x : PyData} (h : Mt k x) : Mt (k + 1) x := ⟨h.1.mono (by omega) (by omega) (by omega), by have := h.2; rw [Nat.pow_succ]; omega⟩
theorem Mt.pl {k : Nat} {x : PyData} (h : Mt k x) : Pl2 x := by
  refine ⟨h.1.plain, fun ds e y m => ?_, fun ds e y m => ?_⟩
  · have := h.1
    rw [e] at this
    rw [show 1 + 2 * k = (2 * k) + 1 by omega] at this
    simp only [Ok] at this
    exact (this.2 y m).plain
  · have := h.1
    rw [e] at this
    rw [show 1 + 2 * k = (2 * k) + 1 by omega] at this
    simp only [Ok] at this
    exact (this.2 y m).plain
theorem mt_pair {a b : Int} (ha : a.natAbs < 10 ^ 21) (hb : b.natAbs < 10 ^ 21) : Mt 0 (.tuple [.int a, .int b]) := by
  refine ⟨⟨by simp, fun x m => ?_⟩, by simp [sz, szA]⟩
  simp only [List.mem_cons, List.not_mem_nil, or_false] at m
  rcases m with rfl | rfl
  · exact ha
  · exact hb
def W1 : List PyData := [.none, .tuple [], .list [], .int 0, .str "overfull", .tuple [.int 1], .tuple [.int 1, .int 1, .int 1], .list [.int 1, .int 1000000000], .tuple [.bool true, .int 1000000000], .tuple [.int 0, .none]]
def W2 (e : Int) : List PyData := [.tuple [.int (-100000000000000000000), .int 100000000000000000000], .tuple [.int e, .int 0], .tuple [.str "1", .str "9"], .tuple [.int 1, .bool true]]
theorem W1_ok : ∀ x ∈ W1, Mt 0 x := by
  have h : W1.all (fun x => okBx 4 (10 ^ 21) 1 x && decide (sz x + 1000 ≤ 2000)) = true := by decide +kernel
  intro x m
  have := List.all_eq_true.1 h x m
  simp only [Bool.and_eq_true, decide_eq_true_eq] at this
  exact ⟨okBx_ok this.1, by simpa using this.2⟩
theorem W2_ok {e : Int} (he : e.natAbs < 10 ^ 21) : ∀ x ∈ W2 e, Mt 0 x := by
  have h : ([.tuple [.str "1", .str "9"], .tuple [.int 1, .bool true]] : List PyData).all (fun x => okBx 4 (10 ^ 21) 1 x && decide (sz x + 1000 ≤ 2000)) = true := by decide +kernel
  have h' : ∀ x ∈ ([.tuple [.str "1", .str "9"], .tuple [.int 1, .bool true]] : List PyData), Mt 0 x := fun x m => by
    have := List.all_eq_true.1 h x m
    simp only [Bool.and_eq_true, decide_eq_true_eq] at this
    exact ⟨okBx_ok this.1, by simpa using this.2⟩
  intro x m
  simp only [W2, List.mem_cons, List.not_mem_nil, or_false] at m
  rcases m with rfl | rfl | rfl | rfl
  · exact mt_pair (by decide) (by decide)
  · exact mt_pair he (by decide)
  · exact h' _ (by simp)
  · exact h' _ (by simp)
theorem h_right : SpRight 2000 (D_right 29) := by
  intro C s hs hC
  have hC' : C + 2000 ≤ 100000000 := hC
  rw [e_right]
  obtain ⟨_, _, p1, S0', st, s1, rfl, rfl, p2, p3, p4⟩ := h_plant 24 C 8 10 s hs (by show _ ≤ (100000000 : Int); omega) (by omega) (by omega) (by omega)
  obtain ⟨_, _, t1, S, s2, rfl, rfl, t2, ok, _, _⟩ := h_tight 25 _ 8 10 s1 S0' p2 (by show _ ≤ (100000000 : Int); omega) p3 (by omega) (by omega)
  have sN := ok.sN
  have rM := ok.rM
  obtain ⟨ns, hns⟩ : ∃ ns : List Int, ns = 0 :: 1000000005 :: (S.ranges.map (·.1) ++ S.ranges.map (·.2)) := ⟨_, rfl⟩
  have hnl : ns.length ≤ 18 := by rw [hns]; simp; omega
  have hnb : ∀ x ∈ ns, x.natAbs < 10 ^ 21 := by
    intro x m
    rw [hns] at m
    simp only [List.mem_cons, List.mem_append, List.mem_map] at m
    rcases m with rfl | rfl | ⟨p, hp, rfl⟩ | ⟨p, hp, rfl⟩
    · decide
    · decide
    · have := ok.rb p hp; omega
    · have := ok.rb p hp; omega
  obtain ⟨es, hes⟩ : ∃ es, es = sortU ns := ⟨_, rfl⟩
  have hel : es.length ≤ 18 := by rw [hes]; exact Nat.le_trans (sortU_len _) hnl
  have heb : ∀ x ∈ es, x.natAbs < 10 ^ 21 := fun x m => hnb x (sortU_mem (by rw [← hes]; exact m))
  have hen : es ≠ [] := by rw [hes, hns]; exact sortU_ne
  have hel0 : 0 < es.length := List.length_pos_iff.2 hen
  obtain ⟨q, rfl⟩ := hs.own
  obtain ⟨q1, rfl⟩ := p2.own
  obtain ⟨q2, rfl⟩ := t2.own
  have p1' : D_plant 28 [.own (.lst q), .dat (.int 8), .dat (.int 10)] = some (.dat (.tuple [dShop S0', .tuple (dI st)]), [.own (.lst q1), .dat (.int 8), .dat (.int 10)]) := p1
  have t1' : D_tight 28 [.own (.lst q1), .dat (dShop S0')] = some (.dat (dShop S), [.own (.lst q2), .dat (dShop S0')]) := t1
  have i1 : intsD (.int 0 :: .int 1000000005 :: (S.ranges.map (fun p => PyData.int p.1) ++ S.ranges.map (fun p => PyData.int p.2))) = some ns := by
    have : (.int 0 :: .int 1000000005 :: (S.ranges.map (fun p => PyData.int p.1) ++ S.ranges.map (fun p => PyData.int p.2))) = dI ns := by rw [hns]; simp [Function.comp_def]
    rw [this]; exact intsD_map ns
  refine mkD_wp rfl (wp_gh (fm1 := [some (.own (.lst q2)), some (.dat (dShop S)), none, none, none, none, none, none, none, none, none, none]) (by simp [mVar_ap, mLit_ap, m2_ap, mB_ap, mAndT_ap, mOrT_ap, mNotT_ap, mAndV_ap, mOrV_ap, mNotV_ap, mIfE_ap, mNil_ap, mCons_ap, mDisp_ap, gSet_ap, gsNil_ap, gsCons_ap, gTupD_ap, mSet_ap, mAsg_ap, mPar_ap, mExpr_ap, mRet_ap, mRetN_ap, mNext_ap, mBreak_ap, mCont_ap, mSeq_ap, mIf_ap, iSeq_ap, iRan_ap, iRan2_ap, iEnm_ap, iZp_ap, mFor_ap, mWhile_ap, mCall_ap, mkD_ap, fI_ap, fAdd_ap, fSub_ap, fMul_ap, fMod_ap, fDiv_ap, fPow_ap, fLt_ap, fLe_ap, fGt_ap, fGe_ap, fIsN_ap, fNotN_ap, fIsB_ap, fIx_ap, fAddX_ap, fSubX_ap, fMulX_ap, m1_ap, fNeg_ap, mB1_ap, fLen_ap, fAbs_ap, fInt_ap, fMin2_ap, fMax2_ap, fList_ap, fTuple_ap, fStr_ap, mMt_ap, mMtZ_ap, fAppend_ap, fInsert_ap, fExtend_ap, fPopAt_ap, mChain_ap, oNone_ap, oSome_ap, mSl_ap, gIx_ap, fInX_ap, fNotInX_ap, mIsi_ap, fEqX_ap, fNeX_ap, fAll_ap, fAny_ap, fSum_ap, fSorted_ap, fBest_ap, fIdx_ap, fRepr_ap, mPermA_ap, fBack_ap, gSplice_ap, mSortSet_ap, fMulY_ap, mTupRan_ap, mFz_ap, mGh_ap, fIsX_ap, mGhO_ap, ia_none_int, ia_none_bool, ia_none_list, ia_none_tuple, ia_none_str, ia_none_seq, ia_bool_int, ia_bool_bool, ia_bool_list, ia_bool_tuple, ia_bool_str, ia_bool_seq, ia_int_int, ia_int_bool, ia_int_list, ia_int_tuple, ia_int_str, ia_int_seq, ia_str_int, ia_str_bool, ia_str_list, ia_str_tuple, ia_str_str, ia_str_seq, ia_list_int, ia_list_bool, ia_list_list, ia_list_tuple, ia_list_str, ia_list_seq, ia_tuple_int, ia_tuple_bool, ia_tuple_list, ia_tuple_tuple, ia_tuple_str, ia_tuple_seq, mLst_ap, mTup_ap, mYes_ap, sizeLine_v, shaped_int, eqv_int, shaped_bool, eqv_bool, shaped_none, shaped_nilT, shaped_nilL, frz, frzAll, peek, res1, resAll, stoAll, argOf, argsOf, bors, wback, outAt, outsFrom, ownsStay, retv, wipeF, unwipe, sto, isNone, tyD, cY, cMul, cMod, cDiv, cPow, Cell.dat, b2n, frzS, frzL, fzV, atI, ixN, fMulL, p1', t1']) (wp_gh (fm1 := [some (.own (.lst q2)), some (.dat (dShop S)), some (.own (.lst (dI es))), none, none, none, none, none, none, none, none, none]) ?_ (wp_nx (fm1 := [some (.own (.lst q2)), some (.dat (dShop S)), some (.dat (.list (dI es))), some (.own (.lst [])), none, none, none, none, none, none, none, none]) (by simp [mVar_ap, mLit_ap, m2_ap, mB_ap, mAndT_ap, mOrT_ap, mNotT_ap, mAndV_ap, mOrV_ap, mNotV_ap, mIfE_ap, mNil_ap, mCons_ap, mDisp_ap, gSet_ap, gsNil_ap, gsCons_ap, gTupD_ap, mSet_ap, mAsg_ap, mPar_ap, mExpr_ap, mRet_ap, mRetN_ap, mNext_ap, mBreak_ap, mCont_ap, mSeq_ap, mIf_ap, iSeq_ap, iRan_ap, iRan2_ap, iEnm_ap, iZp_ap, mFor_ap, mWhile_ap, mCall_ap, mkD_ap, fI_ap, fAdd_ap, fSub_ap, fMul_ap, fMod_ap, fDiv_ap, fPow_ap, fLt_ap, fLe_ap, fGt_ap, fGe_ap, fIsN_ap, fNotN_ap, fIsB_ap, fIx_ap, fAddX_ap, fSubX_ap, fMulX_ap, m1_ap, fNeg_ap, mB1_ap, fLen_ap, fAbs_ap, fInt_ap, fMin2_ap, fMax2_ap, fList_ap, fTuple_ap, fStr_ap, mMt_ap, mMtZ_ap, fAppend_ap, fInsert_ap, fExtend_ap, fPopAt_ap, mChain_ap, oNone_ap, oSome_ap, mSl_ap, gIx_ap, fInX_ap, fNotInX_ap, mIsi_ap, fEqX_ap, fNeX_ap, fAll_ap, fAny_ap, fSum_ap, fSorted_ap, fBest_ap, fIdx_ap, fRepr_ap, mPermA_ap, fBack_ap, gSplice_ap, mSortSet_ap, fMulY_ap, mTupRan_ap, mFz_ap, mGh_ap, fIsX_ap, mGhO_ap, ia_none_int, ia_none_bool, ia_none_list, ia_none_tuple, ia_none_str, ia_none_seq, ia_bool_int, ia_bool_bool, ia_bool_list, ia_bool_tuple, ia_bool_str, ia_bool_seq, ia_int_int, ia_int_bool, ia_int_list, ia_int_tuple, ia_int_str, ia_int_seq, ia_str_int, ia_str_bool, ia_str_list, ia_str_tuple, ia_str_str, ia_str_seq, ia_list_int, ia_list_bool, ia_list_list, ia_list_tuple, ia_list_str, ia_list_seq, ia_tuple_int, ia_tuple_bool, ia_tuple_list, ia_tuple_tuple, ia_tuple_str, ia_tuple_seq, mLst_ap, mTup_ap, mYes_ap, sizeLine_v, shaped_int, eqv_int, shaped_bool, eqv_bool, shaped_none, shaped_nilT, shaped_nilL, frz, frzAll, peek, res1, resAll, stoAll, argOf, argsOf, bors, wback, outAt, outsFrom, ownsStay, retv, wipeF, unwipe, sto, isNone, tyD, cY, cMul, cMod, cDiv, cPow, Cell.dat, b2n, frzS, frzL, fzV, atI, ixN, fMulL]) ?_)))
  · simp [mVar_ap, mLit_ap, m2_ap, mB_ap, mAndT_ap, mOrT_ap, mNotT_ap, mAndV_ap, mOrV_ap, mNotV_ap, mIfE_ap, mNil_ap, mCons_ap, mDisp_ap, gSet_ap, gsNil_ap, gsCons_ap, gTupD_ap, mSet_ap, mAsg_ap, mPar_ap, mExpr_ap, mRet_ap, mRetN_ap, mNext_ap, mBreak_ap, mCont_ap, mSeq_ap, mIf_ap, iSeq_ap, iRan_ap, iRan2_ap, iEnm_ap, iZp_ap, mFor_ap, mWhile_ap, mCall_ap, mkD_ap, fI_ap, fAdd_ap, fSub_ap, fMul_ap, fMod_ap, fDiv_ap, fPow_ap, fLt_ap, fLe_ap, fGt_ap, fGe_ap, fIsN_ap, fNotN_ap, fIsB_ap, fIx_ap, fAddX_ap, fSubX_ap, fMulX_ap, m1_ap, fNeg_ap, mB1_ap, fLen_ap, fAbs_ap, fInt_ap, fMin2_ap, fMax2_ap, fList_ap, fTuple_ap, fStr_ap, mMt_ap, mMtZ_ap, fAppend_ap, fInsert_ap, fExtend_ap, fPopAt_ap, mChain_ap, oNone_ap, oSome_ap, mSl_ap, gIx_ap, fInX_ap, fNotInX_ap, mIsi_ap, fEqX_ap, fNeX_ap, fAll_ap, fAny_ap, fSum_ap, fSorted_ap, fBest_ap, fIdx_ap, fRepr_ap, mPermA_ap, fBack_ap, gSplice_ap, mSortSet_ap, fMulY_ap, mTupRan_ap, mFz_ap, mGh_ap, fIsX_ap, mGhO_ap, ia_none_int, ia_none_bool, ia_none_list, ia_none_tuple, ia_none_str, ia_none_seq, ia_bool_int, ia_bool_bool, ia_bool_list, ia_bool_tuple, ia_bool_str, ia_bool_seq, ia_int_int, ia_int_bool, ia_int_list, ia_int_tuple, ia_int_str, ia_int_seq, ia_str_int, ia_str_bool, ia_str_list, ia_str_tuple, ia_str_str, ia_str_seq, ia_list_int, ia_list_bool, ia_list_list, ia_list_tuple, ia_list_str, ia_list_seq, ia_tuple_int, ia_tuple_bool, ia_tuple_list, ia_tuple_tuple, ia_tuple_str, ia_tuple_seq, mLst_ap, mTup_ap, mYes_ap, sizeLine_v, shaped_int, eqv_int, shaped_bool, eqv_bool, shaped_none, shaped_nilT, shaped_nilL, frz, frzAll, peek, res1, resAll, stoAll, argOf, argsOf, bors, wback, outAt, outsFrom, ownsStay, retv, wipeF, unwipe, sto, isNone, tyD, cY, cMul, cMod, cDiv, cPow, Cell.dat, b2n, frzS, frzL, fzV, atI, ixN, fMulL, dShop]
    rw [lc_all dPair (fun p => .int p.1) S.ranges]
    case hmi => rfl
    case hn => simp
    case hw => rfl
    case hu => rfl
    case hl => omega
    case h => exact fun p _ => ⟨_, _, rfl, by simp [mVar_ap, mLit_ap, m2_ap, mB_ap, mAndT_ap, mOrT_ap, mNotT_ap, mAndV_ap, mOrV_ap, mNotV_ap, mIfE_ap, mNil_ap, mCons_ap, mDisp_ap, gSet_ap, gsNil_ap, gsCons_ap, gTupD_ap, mSet_ap, mAsg_ap, mPar_ap, mExpr_ap, mRet_ap, mRetN_ap, mNext_ap, mBreak_ap, mCont_ap, mSeq_ap, mIf_ap, iSeq_ap, iRan_ap, iRan2_ap, iEnm_ap, iZp_ap, mFor_ap, mWhile_ap, mCall_ap, mkD_ap, fI_ap, fAdd_ap, fSub_ap, fMul_ap, fMod_ap, fDiv_ap, fPow_ap, fLt_ap, fLe_ap, fGt_ap, fGe_ap, fIsN_ap, fNotN_ap, fIsB_ap, fIx_ap, fAddX_ap, fSubX_ap, fMulX_ap, m1_ap, fNeg_ap, mB1_ap, fLen_ap, fAbs_ap, fInt_ap, fMin2_ap, fMax2_ap, fList_ap, fTuple_ap, fStr_ap, mMt_ap, mMtZ_ap, fAppend_ap, fInsert_ap, fExtend_ap, fPopAt_ap, mChain_ap, oNone_ap, oSome_ap, mSl_ap, gIx_ap, fInX_ap, fNotInX_ap, mIsi_ap, fEqX_ap, fNeX_ap, fAll_ap, fAny_ap, fSum_ap, fSorted_ap, fBest_ap, fIdx_ap, fRepr_ap, mPermA_ap, fBack_ap, gSplice_ap, mSortSet_ap, fMulY_ap, mTupRan_ap, mFz_ap, mGh_ap, fIsX_ap, mGhO_ap, ia_none_int, ia_none_bool, ia_none_list, ia_none_tuple, ia_none_str, ia_none_seq, ia_bool_int, ia_bool_bool, ia_bool_list, ia_bool_tuple, ia_bool_str, ia_bool_seq, ia_int_int, ia_int_bool, ia_int_list, ia_int_tuple, ia_int_str, ia_int_seq, ia_str_int, ia_str_bool, ia_str_list, ia_str_tuple, ia_str_str, ia_str_seq, ia_list_int, ia_list_bool, ia_list_list, ia_list_tuple, ia_list_str, ia_list_seq, ia_tuple_int, ia_tuple_bool, ia_tuple_list, ia_tuple_tuple, ia_tuple_str, ia_tuple_seq, mLst_ap, mTup_ap, mYes_ap, sizeLine_v, shaped_int, eqv_int, shaped_bool, eqv_bool, shaped_none, shaped_nilT, shaped_nilL, frz, frzAll, peek, res1, resAll, stoAll, argOf, argsOf, bors, wback, outAt, outsFrom, ownsStay, retv, wipeF, unwipe, sto, isNone, tyD, cY, cMul, cMod, cDiv, cPow, Cell.dat, b2n, frzS, frzL, fzV, atI, ixN, fMulL, dPair]; (try first | rfl | exact ⟨rfl, rfl⟩ | exact ⟨rfl, rfl, rfl⟩ | exact ⟨rfl, rfl, rfl, rfl⟩ | exact ⟨rfl, rfl, rfl, rfl, rfl⟩), rfl, rfl⟩
    have z1 : 2 + S.ranges.length ≤ 16777216 := by omega
    simp [mVar_ap, mLit_ap, m2_ap, mB_ap, mAndT_ap, mOrT_ap, mNotT_ap, mAndV_ap, mOrV_ap, mNotV_ap, mIfE_ap, mNil_ap, mCons_ap, mDisp_ap, gSet_ap, gsNil_ap, gsCons_ap, gTupD_ap, mSet_ap, mAsg_ap, mPar_ap, mExpr_ap, mRet_ap, mRetN_ap, mNext_ap, mBreak_ap, mCont_ap, mSeq_ap, mIf_ap, iSeq_ap, iRan_ap, iRan2_ap, iEnm_ap, iZp_ap, mFor_ap, mWhile_ap, mCall_ap, mkD_ap, fI_ap, fAdd_ap, fSub_ap, fMul_ap, fMod_ap, fDiv_ap, fPow_ap, fLt_ap, fLe_ap, fGt_ap, fGe_ap, fIsN_ap, fNotN_ap, fIsB_ap, fIx_ap, fAddX_ap, fSubX_ap, fMulX_ap, m1_ap, fNeg_ap, mB1_ap, fLen_ap, fAbs_ap, fInt_ap, fMin2_ap, fMax2_ap, fList_ap, fTuple_ap, fStr_ap, mMt_ap, mMtZ_ap, fAppend_ap, fInsert_ap, fExtend_ap, fPopAt_ap, mChain_ap, oNone_ap, oSome_ap, mSl_ap, gIx_ap, fInX_ap, fNotInX_ap, mIsi_ap, fEqX_ap, fNeX_ap, fAll_ap, fAny_ap, fSum_ap, fSorted_ap, fBest_ap, fIdx_ap, fRepr_ap, mPermA_ap, fBack_ap, gSplice_ap, mSortSet_ap, fMulY_ap, mTupRan_ap, mFz_ap, mGh_ap, fIsX_ap, mGhO_ap, ia_none_int, ia_none_bool, ia_none_list, ia_none_tuple, ia_none_str, ia_none_seq, ia_bool_int, ia_bool_bool, ia_bool_list, ia_bool_tuple, ia_bool_str, ia_bool_seq, ia_int_int, ia_int_bool, ia_int_list, ia_int_tuple, ia_int_str, ia_int_seq, ia_str_int, ia_str_bool, ia_str_list, ia_str_tuple, ia_str_str, ia_str_seq, ia_list_int, ia_list_bool, ia_list_list, ia_list_tuple, ia_list_str, ia_list_seq, ia_tuple_int, ia_tuple_bool, ia_tuple_list, ia_tuple_tuple, ia_tuple_str, ia_tuple_seq, mLst_ap, mTup_ap, mYes_ap, sizeLine_v, shaped_int, eqv_int, shaped_bool, eqv_bool, shaped_none, shaped_nilT, shaped_nilL, frz, frzAll, peek, res1, resAll, stoAll, argOf, argsOf, bors, wback, outAt, outsFrom, ownsStay, retv, wipeF, unwipe, sto, isNone, tyD, cY, cMul, cMod, cDiv, cPow, Cell.dat, b2n, frzS, frzL, fzV, atI, ixN, fMulL, z1]
    rw [lc_all dPair (fun p => .int p.2) S.ranges]
    case hmi => rfl
    case hn => simp
    case hw => rfl
    case hu => rfl
    case hl => omega
    case h => exact fun p _ => ⟨_, _, rfl, by simp [mVar_ap, mLit_ap, m2_ap, mB_ap, mAndT_ap, mOrT_ap, mNotT_ap, mAndV_ap, mOrV_ap, mNotV_ap, mIfE_ap, mNil_ap, mCons_ap, mDisp_ap, gSet_ap, gsNil_ap, gsCons_ap, gTupD_ap, mSet_ap, mAsg_ap, mPar_ap, mExpr_ap, mRet_ap, mRetN_ap, mNext_ap, mBreak_ap, mCont_ap, mSeq_ap, mIf_ap, iSeq_ap, iRan_ap, iRan2_ap, iEnm_ap, iZp_ap, mFor_ap, mWhile_ap, mCall_ap, mkD_ap, fI_ap, fAdd_ap, fSub_ap, fMul_ap, fMod_ap, fDiv_ap, fPow_ap, fLt_ap, fLe_ap, fGt_ap, fGe_ap, fIsN_ap, fNotN_ap, fIsB_ap, fIx_ap, fAddX_ap, fSubX_ap, fMulX_ap, m1_ap, fNeg_ap, mB1_ap, fLen_ap, fAbs_ap, fInt_ap, fMin2_ap, fMax2_ap, fList_ap, fTuple_ap, fStr_ap, mMt_ap, mMtZ_ap, fAppend_ap, fInsert_ap, fExtend_ap, fPopAt_ap, mChain_ap, oNone_ap, oSome_ap, mSl_ap, gIx_ap, fInX_ap, fNotInX_ap, mIsi_ap, fEqX_ap, fNeX_ap, fAll_ap, fAny_ap, fSum_ap, fSorted_ap, fBest_ap, fIdx_ap, fRepr_ap, mPermA_ap, fBack_ap, gSplice_ap, mSortSet_ap, fMulY_ap, mTupRan_ap, mFz_ap, mGh_ap, fIsX_ap, mGhO_ap, ia_none_int, ia_none_bool, ia_none_list, ia_none_tuple, ia_none_str, ia_none_seq, ia_bool_int, ia_bool_bool, ia_bool_list, ia_bool_tuple, ia_bool_str, ia_bool_seq, ia_int_int, ia_int_bool, ia_int_list, ia_int_tuple, ia_int_str, ia_int_seq, ia_str_int, ia_str_bool, ia_str_list, ia_str_tuple, ia_str_str, ia_str_seq, ia_list_int, ia_list_bool, ia_list_list, ia_list_tuple, ia_list_str, ia_list_seq, ia_tuple_int, ia_tuple_bool, ia_tuple_list, ia_tuple_tuple, ia_tuple_str, ia_tuple_seq, mLst_ap, mTup_ap, mYes_ap, sizeLine_v, shaped_int, eqv_int, shaped_bool, eqv_bool, shaped_none, shaped_nilT, shaped_nilL, frz, frzAll, peek, res1, resAll, stoAll, argOf, argsOf, bors, wback, outAt, outsFrom, ownsStay, retv, wipeF, unwipe, sto, isNone, tyD, cY, cMul, cMod, cDiv, cPow, Cell.dat, b2n, frzS, frzL, fzV, atI, ixN, fMulL, dPair]; (try first | rfl | exact ⟨rfl, rfl⟩ | exact ⟨rfl, rfl, rfl⟩ | exact ⟨rfl, rfl, rfl, rfl⟩ | exact ⟨rfl, rfl, rfl, rfl, rfl⟩), rfl, rfl⟩
    have z2 : S.ranges.length + 1 + 1 + S.ranges.length ≤ 16777216 := by omega
    have z2' : 2 + S.ranges.length + S.ranges.length ≤ 16777216 := by omega
    have z3 : ns.length < 64 := by omega
    simp [mVar_ap, mLit_ap, m2_ap, mB_ap, mAndT_ap, mOrT_ap, mNotT_ap, mAndV_ap, mOrV_ap, mNotV_ap, mIfE_ap, mNil_ap, mCons_ap, mDisp_ap, gSet_ap, gsNil_ap, gsCons_ap, gTupD_ap, mSet_ap, mAsg_ap, mPar_ap, mExpr_ap, mRet_ap, mRetN_ap, mNext_ap, mBreak_ap, mCont_ap, mSeq_ap, mIf_ap, iSeq_ap, iRan_ap, iRan2_ap, iEnm_ap, iZp_ap, mFor_ap, mWhile_ap, mCall_ap, mkD_ap, fI_ap, fAdd_ap, fSub_ap, fMul_ap, fMod_ap, fDiv_ap, fPow_ap, fLt_ap, fLe_ap, fGt_ap, fGe_ap, fIsN_ap, fNotN_ap, fIsB_ap, fIx_ap, fAddX_ap, fSubX_ap, fMulX_ap, m1_ap, fNeg_ap, mB1_ap, fLen_ap, fAbs_ap, fInt_ap, fMin2_ap, fMax2_ap, fList_ap, fTuple_ap, fStr_ap, mMt_ap, mMtZ_ap, fAppend_ap, fInsert_ap, fExtend_ap, fPopAt_ap, mChain_ap, oNone_ap, oSome_ap, mSl_ap, gIx_ap, fInX_ap, fNotInX_ap, mIsi_ap, fEqX_ap, fNeX_ap, fAll_ap, fAny_ap, fSum_ap, fSorted_ap, fBest_ap, fIdx_ap, fRepr_ap, mPermA_ap, fBack_ap, gSplice_ap, mSortSet_ap, fMulY_ap, mTupRan_ap, mFz_ap, mGh_ap, fIsX_ap, mGhO_ap, ia_none_int, ia_none_bool, ia_none_list, ia_none_tuple, ia_none_str, ia_none_seq, ia_bool_int, ia_bool_bool, ia_bool_list, ia_bool_tuple, ia_bool_str, ia_bool_seq, ia_int_int, ia_int_bool, ia_int_list, ia_int_tuple, ia_int_str, ia_int_seq, ia_str_int, ia_str_bool, ia_str_list, ia_str_tuple, ia_str_str, ia_str_seq, ia_list_int, ia_list_bool, ia_list_list, ia_list_tuple, ia_list_str, ia_list_seq, ia_tuple_int, ia_tuple_bool, ia_tuple_list, ia_tuple_tuple, ia_tuple_str, ia_tuple_seq, mLst_ap, mTup_ap, mYes_ap, sizeLine_v, shaped_int, eqv_int, shaped_bool, eqv_bool, shaped_none, shaped_nilT, shaped_nilL, frz, frzAll, peek, res1, resAll, stoAll, argOf, argsOf, bors, wback, outAt, outsFrom, ownsStay, retv, wipeF, unwipe, sto, isNone, tyD, cY, cMul, cMod, cDiv, cPow, Cell.dat, b2n, frzS, frzL, fzV, atI, ixN, fMulL, z2, z2', i1, z3, hes]
  -- all pairs of ends
  refine wp_seq (wp_for (fun k fm => ∃ x4 ms, fm = [some (.own (.lst q2)), some (.dat (dShop S)), some (.dat (.list (dI es))), some (.own (.lst ms)), x4, none, none, none, none, none, none, none] ∧ (∀ x ∈ ms, Mt 0 x) ∧ ms.length ≤ 18 * k) (by simp [mVar_ap, mLit_ap, m2_ap, mB_ap, mAndT_ap, mOrT_ap, mNotT_ap, mAndV_ap, mOrV_ap, mNotV_ap, mIfE_ap, mNil_ap, mCons_ap, mDisp_ap, gSet_ap, gsNil_ap, gsCons_ap, gTupD_ap, mSet_ap, mAsg_ap, mPar_ap, mExpr_ap, mRet_ap, mRetN_ap, mNext_ap, mBreak_ap, mCont_ap, mSeq_ap, mIf_ap, iSeq_ap, iRan_ap, iRan2_ap, iEnm_ap, iZp_ap, mFor_ap, mWhile_ap, mCall_ap, mkD_ap, fI_ap, fAdd_ap, fSub_ap, fMul_ap, fMod_ap, fDiv_ap, fPow_ap, fLt_ap, fLe_ap, fGt_ap, fGe_ap, fIsN_ap, fNotN_ap, fIsB_ap, fIx_ap, fAddX_ap, fSubX_ap, fMulX_ap, m1_ap, fNeg_ap, mB1_ap, fLen_ap, fAbs_ap, fInt_ap, fMin2_ap, fMax2_ap, fList_ap, fTuple_ap, fStr_ap, mMt_ap, mMtZ_ap, fAppend_ap, fInsert_ap, fExtend_ap, fPopAt_ap, mChain_ap, oNone_ap, oSome_ap, mSl_ap, gIx_ap, fInX_ap, fNotInX_ap, mIsi_ap, fEqX_ap, fNeX_ap, fAll_ap, fAny_ap, fSum_ap, fSorted_ap, fBest_ap, fIdx_ap, fRepr_ap, mPermA_ap, fBack_ap, gSplice_ap, mSortSet_ap, fMulY_ap, mTupRan_ap, mFz_ap, mGh_ap, fIsX_ap, mGhO_ap, ia_none_int, ia_none_bool, ia_none_list, ia_none_tuple, ia_none_str, ia_none_seq, ia_bool_int, ia_bool_bool, ia_bool_list, ia_bool_tuple, ia_bool_str, ia_bool_seq, ia_int_int, ia_int_bool, ia_int_list, ia_int_tuple, ia_int_str, ia_int_seq, ia_str_int, ia_str_bool, ia_str_list, ia_str_tuple, ia_str_str, ia_str_seq, ia_list_int, ia_list_bool, ia_list_list, ia_list_tuple, ia_list_str, ia_list_seq, ia_tuple_int, ia_tuple_bool, ia_tuple_list, ia_tuple_tuple, ia_tuple_str, ia_tuple_seq, mLst_ap, mTup_ap, mYes_ap, sizeLine_v, shaped_int, eqv_int, shaped_bool, eqv_bool, shaped_none, shaped_nilT, shaped_nilL, frz, frzAll, peek, res1, resAll, stoAll, argOf, argsOf, bors, wback, outAt, outsFrom, ownsStay, retv, wipeF, unwipe, sto, isNone, tyD, cY, cMul, cMod, cDiv, cPow, Cell.dat, b2n, frzS, frzL, fzV, atI, ixN, fMulL]; (try first | rfl | exact ⟨rfl, rfl⟩ | exact ⟨rfl, rfl, rfl⟩ | exact ⟨rfl, rfl, rfl, rfl⟩ | exact ⟨rfl, rfl, rfl, rfl, rfl⟩)) ⟨_, [], rfl, by simp, by simp⟩ ?_ ?_)
  · intro j d m fm i
    rw [List.getElem?_map] at m
    obtain ⟨v, hv, rfl⟩ := Option.map_eq_some_iff.1 m
    have hvm := List.mem_of_getElem? hv
    have hj := (List.getElem?_eq_some_iff.1 hv).1
    obtain ⟨x4, ms, rfl, m1, m2⟩ := i
    refine ⟨_, rfl, wp_is (fl := .nx) (fm' := [some (.own (.lst q2)), some (.dat (dShop S)), some (.dat (.list (dI es))), some (.own (.lst (ms ++ es.map fun t => .tuple [.int v, .int t]))), some (.dat (.int v)), none, none, none, none, none, none, none]) ?_ ⟨rfl, _, _, rfl, fun x mx => ?_, ?_⟩⟩
    · simp [mVar_ap, mLit_ap, m2_ap, mB_ap, mAndT_ap, mOrT_ap, mNotT_ap, mAndV_ap, mOrV_ap, mNotV_ap, mIfE_ap, mNil_ap, mCons_ap, mDisp_ap, gSet_ap, gsNil_ap, gsCons_ap, gTupD_ap, mSet_ap, mAsg_ap, mPar_ap, mExpr_ap, mRet_ap, mRetN_ap, mNext_ap, mBreak_ap, mCont_ap, mSeq_ap, mIf_ap, iSeq_ap, iRan_ap, iRan2_ap, iEnm_ap, iZp_ap, mFor_ap, mWhile_ap, mCall_ap, mkD_ap, fI_ap, fAdd_ap, fSub_ap, fMul_ap, fMod_ap, fDiv_ap, fPow_ap, fLt_ap, fLe_ap, fGt_ap, fGe_ap, fIsN_ap, fNotN_ap, fIsB_ap, fIx_ap, fAddX_ap, fSubX_ap, fMulX_ap, m1_ap, fNeg_ap, mB1_ap, fLen_ap, fAbs_ap, fInt_ap, fMin2_ap, fMax2_ap, fList_ap, fTuple_ap, fStr_ap, mMt_ap, mMtZ_ap, fAppend_ap, fInsert_ap, fExtend_ap, fPopAt_ap, mChain_ap, oNone_ap, oSome_ap, mSl_ap, gIx_ap, fInX_ap, fNotInX_ap, mIsi_ap, fEqX_ap, fNeX_ap, fAll_ap, fAny_ap, fSum_ap, fSorted_ap, fBest_ap, fIdx_ap, fRepr_ap, mPermA_ap, fBack_ap, gSplice_ap, mSortSet_ap, fMulY_ap, mTupRan_ap, mFz_ap, mGh_ap, fIsX_ap, mGhO_ap, ia_none_int, ia_none_bool, ia_none_list, ia_none_tuple, ia_none_str, ia_none_seq, ia_bool_int, ia_bool_bool, ia_bool_list, ia_bool_tuple, ia_bool_str, ia_bool_seq, ia_int_int, ia_int_bool, ia_int_list, ia_int_tuple, ia_int_str, ia_int_seq, ia_str_int, ia_str_bool, ia_str_list, ia_str_tuple, ia_str_str, ia_str_seq, ia_list_int, ia_list_bool, ia_list_list, ia_list_tuple, ia_list_str, ia_list_seq, ia_tuple_int, ia_tuple_bool, ia_tuple_list, ia_tuple_tuple, ia_tuple_str, ia_tuple_seq, mLst_ap, mTup_ap, mYes_ap, sizeLine_v, shaped_int, eqv_int, shaped_bool, eqv_bool, shaped_none, shaped_nilT, shaped_nilL, frz, frzAll, peek, res1, resAll, stoAll, argOf, argsOf, bors, wback, outAt, outsFrom, ownsStay, retv, wipeF, unwipe, sto, isNone, tyD, cY, cMul, cMod, cDiv, cPow, Cell.dat, b2n, frzS, frzL, fzV, atI, ixN, fMulL]
      rw [lc_all PyData.int (fun t => .tuple [.int v, .int t]) es]
      case hmi => rfl
      case hn => simp
      case hw => rfl
      case hu => rfl
      case hl => omega
      case h => exact fun p _ => ⟨_, _, rfl, by simp [mVar_ap, mLit_ap, m2_ap, mB_ap, mAndT_ap, mOrT_ap, mNotT_ap, mAndV_ap, mOrV_ap, mNotV_ap, mIfE_ap, mNil_ap, mCons_ap, mDisp_ap, gSet_ap, gsNil_ap, gsCons_ap, gTupD_ap, mSet_ap, mAsg_ap, mPar_ap, mExpr_ap, mRet_ap, mRetN_ap, mNext_ap, mBreak_ap, mCont_ap, mSeq_ap, mIf_ap, iSeq_ap, iRan_ap, iRan2_ap, iEnm_ap, iZp_ap, mFor_ap, mWhile_ap, mCall_ap, mkD_ap, fI_ap, fAdd_ap, fSub_ap, fMul_ap, fMod_ap, fDiv_ap, fPow_ap, fLt_ap, fLe_ap, fGt_ap, fGe_ap, fIsN_ap, fNotN_ap, fIsB_ap, fIx_ap, fAddX_ap, fSubX_ap, fMulX_ap, m1_ap, fNeg_ap, mB1_ap, fLen_ap, fAbs_ap, fInt_ap, fMin2_ap, fMax2_ap, fList_ap, fTuple_ap, fStr_ap, mMt_ap, mMtZ_ap, fAppend_ap, fInsert_ap, fExtend_ap, fPopAt_ap, mChain_ap, oNone_ap, oSome_ap, mSl_ap, gIx_ap, fInX_ap, fNotInX_ap, mIsi_ap, fEqX_ap, fNeX_ap, fAll_ap, fAny_ap, fSum_ap, fSorted_ap, fBest_ap, fIdx_ap, fRepr_ap, mPermA_ap, fBack_ap, gSplice_ap, mSortSet_ap, fMulY_ap, mTupRan_ap, mFz_ap, mGh_ap, fIsX_ap, mGhO_ap, ia_none_int, ia_none_bool, ia_none_list, ia_none_tuple, ia_none_str, ia_none_seq, ia_bool_int, ia_bool_bool, ia_bool_list, ia_bool_tuple, ia_bool_str, ia_bool_seq, ia_int_int, ia_int_bool, ia_int_list, ia_int_tuple, ia_int_str, ia_int_seq, ia_str_int, ia_str_bool, ia_str_list, ia_str_tuple, ia_str_str, ia_str_seq, ia_list_int, ia_list_bool, ia_list_list, ia_list_tuple, ia_list_str, ia_list_seq, ia_tuple_int, ia_tuple_bool, ia_tuple_list, ia_tuple_tuple, ia_tuple_str, ia_tuple_seq, mLst_ap, mTup_ap, mYes_ap, sizeLine_v, shaped_int, eqv_int, shaped_bool, eqv_bool, shaped_none, shaped_nilT, shaped_nilL, frz, frzAll, peek, res1, resAll, stoAll, argOf, argsOf, bors, wback, outAt, outsFrom, ownsStay, retv, wipeF, unwipe, sto, isNone, tyD, cY, cMul, cMod, cDiv, cPow, Cell.dat, b2n, frzS, frzL, fzV, atI, ixN, fMulL]; (try first | rfl | exact ⟨rfl, rfl⟩ | exact ⟨rfl, rfl, rfl⟩ | exact ⟨rfl, rfl, rfl, rfl⟩ | exact ⟨rfl, rfl, rfl, rfl, rfl⟩), rfl, rfl⟩
      have z2 : ms.length + es.length ≤ 16777216 := by omega
      simp [mVar_ap, mLit_ap, m2_ap, mB_ap, mAndT_ap, mOrT_ap, mNotT_ap, mAndV_ap, mOrV_ap, mNotV_ap, mIfE_ap, mNil_ap, mCons_ap, mDisp_ap, gSet_ap, gsNil_ap, gsCons_ap, gTupD_ap, mSet_ap, mAsg_ap, mPar_ap, mExpr_ap, mRet_ap, mRetN_ap, mNext_ap, mBreak_ap, mCont_ap, mSeq_ap, mIf_ap, iSeq_ap, iRan_ap, iRan2_ap, iEnm_ap, iZp_ap, mFor_ap, mWhile_ap, mCall_ap, mkD_ap, fI_ap, fAdd_ap, fSub_ap, fMul_ap, fMod_ap, fDiv_ap, fPow_ap, fLt_ap, fLe_ap, fGt_ap, fGe_ap, fIsN_ap, fNotN_ap, fIsB_ap, fIx_ap, fAddX_ap, fSubX_ap, fMulX_ap, m1_ap, fNeg_ap, mB1_ap, fLen_ap, fAbs_ap, fInt_ap, fMin2_ap, fMax2_ap, fList_ap, fTuple_ap, fStr_ap, mMt_ap, mMtZ_ap, fAppend_ap, fInsert_ap, fExtend_ap, fPopAt_ap, mChain_ap, oNone_ap, oSome_ap, mSl_ap, gIx_ap, fInX_ap, fNotInX_ap, mIsi_ap, fEqX_ap, fNeX_ap, fAll_ap, fAny_ap, fSum_ap, fSorted_ap, fBest_ap, fIdx_ap, fRepr_ap, mPermA_ap, fBack_ap, gSplice_ap, mSortSet_ap, fMulY_ap, mTupRan_ap, mFz_ap, mGh_ap, fIsX_ap, mGhO_ap, ia_none_int, ia_none_bool, ia_none_list, ia_none_tuple, ia_none_str, ia_none_seq, ia_bool_int, ia_bool_bool, ia_bool_list, ia_bool_tuple, ia_bool_str, ia_bool_seq, ia_int_int, ia_int_bool, ia_int_list, ia_int_tuple, ia_int_str, ia_int_seq, ia_str_int, ia_str_bool, ia_str_list, ia_str_tuple, ia_str_str, ia_str_seq, ia_list_int, ia_list_bool, ia_list_list, ia_list_tuple, ia_list_str, ia_list_seq, ia_tuple_int, ia_tuple_bool, ia_tuple_list, ia_tuple_tuple, ia_tuple_str, ia_tuple_seq, mLst_ap, mTup_ap, mYes_ap, sizeLine_v, shaped_int, eqv_int, shaped_bool, eqv_bool, shaped_none, shaped_nilT, shaped_nilL, frz, frzAll, peek, res1, resAll, stoAll, argOf, argsOf, bors, wback, outAt, outsFrom, ownsStay, retv, wipeF, unwipe, sto, isNone, tyD, cY, cMul, cMod, cDiv, cPow, Cell.dat, b2n, frzS, frzL, fzV, atI, ixN, fMulL, z2]
    · rcases List.mem_append.1 mx with mx | mx
      · exact m1 x mx
      · obtain ⟨t, ht, rfl⟩ := List.mem_map.1 mx
        exact mt_pair (heb v hvm) (heb t ht)
    · simp; omega
  intro fm' i
  obtain ⟨x4, ms, rfl, m1, m2⟩ := i
  simp only [List.length_map] at m2
  have m3 : ms.length ≤ 324 := by omega
  have hlast : es.length - 1 < es.length := by omega
  have e1 : atI (dI es) (-1) = some (.int es[es.length - 1]) := by
    have x2 : (1 : Int) ≤ es.length := by omega
    have x3 : (-1 + (es.length : Int)).toNat = es.length - 1 := by omega
    simp [atI, ixN, x2, x3, hlast]
  have z1 : ms.length + 10 ≤ 16777216 := by omega
  have z2 : ms.length + 10 + 4 ≤ 16777216 := by omega
  refine ⟨rfl, wp_nx (fm1 := [some (.own (.lst q2)), some (.dat (dShop S)), some (.dat (.list (dI es))), some (.own (.lst (ms ++ W1))), x4, none, none, none, none, none, none, none]) (by simp [mVar_ap, mLit_ap, m2_ap, mB_ap, mAndT_ap, mOrT_ap, mNotT_ap, mAndV_ap, mOrV_ap, mNotV_ap, mIfE_ap, mNil_ap, mCons_ap, mDisp_ap, gSet_ap, gsNil_ap, gsCons_ap, gTupD_ap, mSet_ap, mAsg_ap, mPar_ap, mExpr_ap, mRet_ap, mRetN_ap, mNext_ap, mBreak_ap, mCont_ap, mSeq_ap, mIf_ap, iSeq_ap, iRan_ap, iRan2_ap, iEnm_ap, iZp_ap, mFor_ap, mWhile_ap, mCall_ap, mkD_ap, fI_ap, fAdd_ap, fSub_ap, fMul_ap, fMod_ap, fDiv_ap, fPow_ap, fLt_ap, fLe_ap, fGt_ap, fGe_ap, fIsN_ap, fNotN_ap, fIsB_ap, fIx_ap, fAddX_ap, fSubX_ap, fMulX_ap, m1_ap, fNeg_ap, mB1_ap, fLen_ap, fAbs_ap, fInt_ap, fMin2_ap, fMax2_ap, fList_ap, fTuple_ap, fStr_ap, mMt_ap, mMtZ_ap, fAppend_ap, fInsert_ap, fExtend_ap, fPopAt_ap, mChain_ap, oNone_ap, oSome_ap, mSl_ap, gIx_ap, fInX_ap, fNotInX_ap, mIsi_ap, fEqX_ap, fNeX_ap, fAll_ap, fAny_ap, fSum_ap, fSorted_ap, fBest_ap, fIdx_ap, fRepr_ap, mPermA_ap, fBack_ap, gSplice_ap, mSortSet_ap, fMulY_ap, mTupRan_ap, mFz_ap, mGh_ap, fIsX_ap, mGhO_ap, ia_none_int, ia_none_bool, ia_none_list, ia_none_tuple, ia_none_str, ia_none_seq, ia_bool_int, ia_bool_bool, ia_bool_list, ia_bool_tuple, ia_bool_str, ia_bool_seq, ia_int_int, ia_int_bool, ia_int_list, ia_int_tuple, ia_int_str, ia_int_seq, ia_str_int, ia_str_bool, ia_str_list, ia_str_tuple, ia_str_str, ia_str_seq, ia_list_int, ia_list_bool, ia_list_list, ia_list_tuple, ia_list_str, ia_list_seq, ia_tuple_int, ia_tuple_bool, ia_tuple_list, ia_tuple_tuple, ia_tuple_str, ia_tuple_seq, mLst_ap, mTup_ap, mYes_ap, sizeLine_v, shaped_int, eqv_int, shaped_bool, eqv_bool, shaped_none, shaped_nilT, shaped_nilL, frz, frzAll, peek, res1, resAll, stoAll, argOf, argsOf, bors, wback, outAt, outsFrom, ownsStay, retv, wipeF, unwipe, sto, isNone, tyD, cY, cMul, cMod, cDiv, cPow, Cell.dat, b2n, frzS, frzL, fzV, atI, ixN, fMulL, z1, W1]) (wp_nx (fm1 := [some (.own (.lst q2)), some (.dat (dShop S)), some (.dat (.list (dI es))), some (.own (.lst (ms ++ W1 ++ W2 es[es.length - 1]))), x4, none, none, none, none, none, none, none]) (by simp [mVar_ap, mLit_ap, m2_ap, mB_ap, mAndT_ap, mOrT_ap, mNotT_ap, mAndV_ap, mOrV_ap, mNotV_ap, mIfE_ap, mNil_ap, mCons_ap, mDisp_ap, gSet_ap, gsNil_ap, gsCons_ap, gTupD_ap, mSet_ap, mAsg_ap, mPar_ap, mExpr_ap, mRet_ap, mRetN_ap, mNext_ap, mBreak_ap, mCont_ap, mSeq_ap, mIf_ap, iSeq_ap, iRan_ap, iRan2_ap, iEnm_ap, iZp_ap, mFor_ap, mWhile_ap, mCall_ap, mkD_ap, fI_ap, fAdd_ap, fSub_ap, fMul_ap, fMod_ap, fDiv_ap, fPow_ap, fLt_ap, fLe_ap, fGt_ap, fGe_ap, fIsN_ap, fNotN_ap, fIsB_ap, fIx_ap, fAddX_ap, fSubX_ap, fMulX_ap, m1_ap, fNeg_ap, mB1_ap, fLen_ap, fAbs_ap, fInt_ap, fMin2_ap, fMax2_ap, fList_ap, fTuple_ap, fStr_ap, mMt_ap, mMtZ_ap, fAppend_ap, fInsert_ap, fExtend_ap, fPopAt_ap, mChain_ap, oNone_ap, oSome_ap, mSl_ap, gIx_ap, fInX_ap, fNotInX_ap, mIsi_ap, fEqX_ap, fNeX_ap, fAll_ap, fAny_ap, fSum_ap, fSorted_ap, fBest_ap, fIdx_ap, fRepr_ap, mPermA_ap, fBack_ap, gSplice_ap, mSortSet_ap, fMulY_ap, mTupRan_ap, mFz_ap, mGh_ap, fIsX_ap, mGhO_ap, ia_none_int, ia_none_bool, ia_none_list, ia_none_tuple, ia_none_str, ia_none_seq, ia_bool_int, ia_bool_bool, ia_bool_list, ia_bool_tuple, ia_bool_str, ia_bool_seq, ia_int_int, ia_int_bool, ia_int_list, ia_int_tuple, ia_int_str, ia_int_seq, ia_str_int, ia_str_bool, ia_str_list, ia_str_tuple, ia_str_str, ia_str_seq, ia_list_int, ia_list_bool, ia_list_list, ia_list_tuple, ia_list_str, ia_list_seq, ia_tuple_int, ia_tuple_bool, ia_tuple_list, ia_tuple_tuple, ia_tuple_str, ia_tuple_seq, mLst_ap, mTup_ap, mYes_ap, sizeLine_v, shaped_int, eqv_int, shaped_bool, eqv_bool, shaped_none, shaped_nilT, shaped_nilL, frz, frzAll, peek, res1, resAll, stoAll, argOf, argsOf, bors, wback, outAt, outsFrom, ownsStay, retv, wipeF, unwipe, sto, isNone, tyD, cY, cMul, cMod, cDiv, cPow, Cell.dat, b2n, frzS, frzL, fzV, fMulL, z2, W1, W2, e1]) ?_)⟩
  have m4 : ∀ x ∈ ms ++ W1 ++ W2 es[es.length - 1], Mt 0 x := fun x mx => by
    rcases List.mem_append.1 mx with mx | mx
    · rcases List.mem_append.1 mx with mx | mx
      · exact m1 x mx
      · exact W1_ok x mx
    · exact W2_ok (heb _ (List.getElem_mem hlast)) x mx
  have m5 : (ms ++ W1 ++ W2 es[es.length - 1]).length ≤ 338 ∧ 0 < (ms ++ W1 ++ W2 es[es.length - 1]).length := by
    have a1 : W1.length = 10 := rfl
    have a2 : (W2 es[es.length - 1]).length = 4 := rfl
    rw [List.length_append, List.length_append, a1, a2]; omega
  generalize ms ++ W1 ++ W2 es[es.length - 1] = ms' at m4 m5
  -- things bent
  refine wp_seq (wp_for (ds := Rf.intsFrom 0 12) (fm0 := [some (.own (.lst q2)), some (.dat (dShop S)), some (.dat (.list (dI es))), some (.own (.lst ms')), x4, none, none, none, none, none, none, none]) (fun k fm => ∃ x5 s ms, fm = [some s, some (.dat (dShop S)), some (.dat (.list (dI es))), some (.own (.lst ms)), x4, x5, none, none, none, none, none, none] ∧ Bx (C + 130 + 120 * k) s ∧ (∀ x ∈ ms, Mt k x) ∧ ms.length ≤ 338 + k ∧ 0 < ms.length) (by simp [mVar_ap, mLit_ap, m2_ap, mB_ap, mAndT_ap, mOrT_ap, mNotT_ap, mAndV_ap, mOrV_ap, mNotV_ap, mIfE_ap, mNil_ap, mCons_ap, mDisp_ap, gSet_ap, gsNil_ap, gsCons_ap, gTupD_ap, mSet_ap, mAsg_ap, mPar_ap, mExpr_ap, mRet_ap, mRetN_ap, mNext_ap, mBreak_ap, mCont_ap, mSeq_ap, mIf_ap, iSeq_ap, iRan_ap, iRan2_ap, iEnm_ap, iZp_ap, mFor_ap, mWhile_ap, mCall_ap, mkD_ap, fI_ap, fAdd_ap, fSub_ap, fMul_ap, fMod_ap, fDiv_ap, fPow_ap, fLt_ap, fLe_ap, fGt_ap, fGe_ap, fIsN_ap, fNotN_ap, fIsB_ap, fIx_ap, fAddX_ap, fSubX_ap, fMulX_ap, m1_ap, fNeg_ap, mB1_ap, fLen_ap, fAbs_ap, fInt_ap, fMin2_ap, fMax2_ap, fList_ap, fTuple_ap, fStr_ap, mMt_ap, mMtZ_ap, fAppend_ap, fInsert_ap, fExtend_ap, fPopAt_ap, mChain_ap, oNone_ap, oSome_ap, mSl_ap, gIx_ap, fInX_ap, fNotInX_ap, mIsi_ap, fEqX_ap, fNeX_ap, fAll_ap, fAny_ap, fSum_ap, fSorted_ap, fBest_ap, fIdx_ap, fRepr_ap, mPermA_ap, fBack_ap, gSplice_ap, mSortSet_ap, fMulY_ap, mTupRan_ap, mFz_ap, mGh_ap, fIsX_ap, mGhO_ap, ia_none_int, ia_none_bool, ia_none_list, ia_none_tuple, ia_none_str, ia_none_seq, ia_bool_int, ia_bool_bool, ia_bool_list, ia_bool_tuple, ia_bool_str, ia_bool_seq, ia_int_int, ia_int_bool, ia_int_list, ia_int_tuple, ia_int_str, ia_int_seq, ia_str_int, ia_str_bool, ia_str_list, ia_str_tuple, ia_str_str, ia_str_seq, ia_list_int, ia_list_bool, ia_list_list, ia_list_tuple, ia_list_str, ia_list_seq, ia_tuple_int, ia_tuple_bool, ia_tuple_list, ia_tuple_tuple, ia_tuple_str, ia_tuple_seq, mLst_ap, mTup_ap, mYes_ap, sizeLine_v, shaped_int, eqv_int, shaped_bool, eqv_bool, shaped_none, shaped_nilT, shaped_nilL, frz, frzAll, peek, res1, resAll, stoAll, argOf, argsOf, bors, wback, outAt, outsFrom, ownsStay, retv, wipeF, unwipe, sto, isNone, tyD, cY, cMul, cMod, cDiv, cPow, Cell.dat, b2n, frzS, frzL, fzV, atI, ixN, fMulL]) ⟨_, _, ms', rfl, t2.mono (by omega), m4, by omega, m5.2⟩ ?_ ?_)
  · intro j d m fm i
    obtain ⟨rfl, hj⟩ := ints_get0 m
    obtain ⟨x5, s, ms, rfl, n1, n2, n3, n4⟩ := i
    obtain ⟨x, s', hx, a1, a2⟩ := h_pick 26 _ s (.own (.lst ms)) ms (.inl rfl) n1 (by show _ ≤ (100000000 : Int); omega) n4 (by omega)
    have hb := h_bent (l := 4 + j) (b := 10 ^ 21 + j) (by omega) (by omega) (by omega) (by omega) (1 + 2 * j) (23 - 2 * j)
    rw [show 23 - 2 * j + (1 + 2 * j) + 4 = 28 by omega] at hb
    obtain ⟨v, _, b1, y, s'', rfl, b2, b3, b4, b5⟩ := hb _ s' x a1 (by show _ ≤ (100000000 : Int); omega) (n2 x hx).1
    obtain ⟨q3, rfl⟩ := n1.own
    obtain ⟨q4, rfl⟩ := a1.own
    obtain ⟨q5, rfl⟩ := b2.own
    have z1 : ms.length < 16777216 := by omega
    refine ⟨_, rfl, wp_is (fl := .nx) (fm' := [some (.own (.lst q5)), some (.dat (dShop S)), some (.dat (.list (dI es))), some (.own (.lst (ms ++ [y]))), x4, some (.dat (.int (j : Nat))), none, none, none, none, none, none]) ?_ ⟨rfl, _, _, _, rfl, b2.mono (by omega), fun z mz => ?_, by simp; omega, by simp⟩⟩
    · rcases b5 with rfl | ⟨ds, rfl, rfl⟩
      · simp [mVar_ap, mLit_ap, m2_ap, mB_ap, mAndT_ap, mOrT_ap, mNotT_ap, mAndV_ap, mOrV_ap, mNotV_ap, mIfE_ap, mNil_ap, mCons_ap, mDisp_ap, gSet_ap, gsNil_ap, gsCons_ap, gTupD_ap, mSet_ap, mAsg_ap, mPar_ap, mExpr_ap, mRet_ap, mRetN_ap, mNext_ap, mBreak_ap, mCont_ap, mSeq_ap, mIf_ap, iSeq_ap, iRan_ap, iRan2_ap, iEnm_ap, iZp_ap, mFor_ap, mWhile_ap, mCall_ap, mkD_ap, fI_ap, fAdd_ap, fSub_ap, fMul_ap, fMod_ap, fDiv_ap, fPow_ap, fLt_ap, fLe_ap, fGt_ap, fGe_ap, fIsN_ap, fNotN_ap, fIsB_ap, fIx_ap, fAddX_ap, fSubX_ap, fMulX_ap, m1_ap, fNeg_ap, mB1_ap, fLen_ap, fAbs_ap, fInt_ap, fMin2_ap, fMax2_ap, fList_ap, fTuple_ap, fStr_ap, mMt_ap, mMtZ_ap, fAppend_ap, fInsert_ap, fExtend_ap, fPopAt_ap, mChain_ap, oNone_ap, oSome_ap, mSl_ap, gIx_ap, fInX_ap, fNotInX_ap, mIsi_ap, fEqX_ap, fNeX_ap, fAll_ap, fAny_ap, fSum_ap, fSorted_ap, fBest_ap, fIdx_ap, fRepr_ap, mPermA_ap, fBack_ap, gSplice_ap, mSortSet_ap, fMulY_ap, mTupRan_ap, mFz_ap, mGh_ap, fIsX_ap, mGhO_ap, ia_none_int, ia_none_bool, ia_none_list, ia_none_tuple, ia_none_str, ia_none_seq, ia_bool_int, ia_bool_bool, ia_bool_list, ia_bool_tuple, ia_bool_str, ia_bool_seq, ia_int_int, ia_int_bool, ia_int_list, ia_int_tuple, ia_int_str, ia_int_seq, ia_str_int, ia_str_bool, ia_str_list, ia_str_tuple, ia_str_str, ia_str_seq, ia_list_int, ia_list_bool, ia_list_list, ia_list_tuple, ia_list_str, ia_list_seq, ia_tuple_int, ia_tuple_bool, ia_tuple_list, ia_tuple_tuple, ia_tuple_str, ia_tuple_seq, mLst_ap, mTup_ap, mYes_ap, sizeLine_v, shaped_int, eqv_int, shaped_bool, eqv_bool, shaped_none, shaped_nilT, shaped_nilL, frz, frzAll, peek, res1, resAll, stoAll, argOf, argsOf, bors, wback, outAt, outsFrom, ownsStay, retv, wipeF, unwipe, sto, isNone, tyD, cY, cMul, cMod, cDiv, cPow, Cell.dat, b2n, frzS, frzL, fzV, atI, ixN, fMulL, a2, b1, z1]
      · simp [mVar_ap, mLit_ap, m2_ap, mB_ap, mAndT_ap, mOrT_ap, mNotT_ap, mAndV_ap, mOrV_ap, mNotV_ap, mIfE_ap, mNil_ap, mCons_ap, mDisp_ap, gSet_ap, gsNil_ap, gsCons_ap, gTupD_ap, mSet_ap, mAsg_ap, mPar_ap, mExpr_ap, mRet_ap, mRetN_ap, mNext_ap, mBreak_ap, mCont_ap, mSeq_ap, mIf_ap, iSeq_ap, iRan_ap, iRan2_ap, iEnm_ap, iZp_ap, mFor_ap, mWhile_ap, mCall_ap, mkD_ap, fI_ap, fAdd_ap, fSub_ap, fMul_ap, fMod_ap, fDiv_ap, fPow_ap, fLt_ap, fLe_ap, fGt_ap, fGe_ap, fIsN_ap, fNotN_ap, fIsB_ap, fIx_ap, fAddX_ap, fSubX_ap, fMulX_ap, m1_ap, fNeg_ap, mB1_ap, fLen_ap, fAbs_ap, fInt_ap, fMin2_ap, fMax2_ap, fList_ap, fTuple_ap, fStr_ap, mMt_ap, mMtZ_ap, fAppend_ap, fInsert_ap, fExtend_ap, fPopAt_ap, mChain_ap, oNone_ap, oSome_ap, mSl_ap, gIx_ap, fInX_ap, fNotInX_ap, mIsi_ap, fEqX_ap, fNeX_ap, fAll_ap, fAny_ap, fSum_ap, fSorted_ap, fBest_ap, fIdx_ap, fRepr_ap, mPermA_ap, fBack_ap, gSplice_ap, mSortSet_ap, fMulY_ap, mTupRan_ap, mFz_ap, mGh_ap, fIsX_ap, mGhO_ap, ia_none_int, ia_none_bool, ia_none_list, ia_none_tuple, ia_none_str, ia_none_seq, ia_bool_int, ia_bool_bool, ia_bool_list, ia_bool_tuple, ia_bool_str, ia_bool_seq, ia_int_int, ia_int_bool, ia_int_list, ia_int_tuple, ia_int_str, ia_int_seq, ia_str_int, ia_str_bool, ia_str_list, ia_str_tuple, ia_str_str, ia_str_seq, ia_list_int, ia_list_bool, ia_list_list, ia_list_tuple, ia_list_str, ia_list_seq, ia_tuple_int, ia_tuple_bool, ia_tuple_list, ia_tuple_tuple, ia_tuple_str, ia_tuple_seq, mLst_ap, mTup_ap, mYes_ap, sizeLine_v, shaped_int, eqv_int, shaped_bool, eqv_bool, shaped_none, shaped_nilT, shaped_nilL, frz, frzAll, peek, res1, resAll, stoAll, argOf, argsOf, bors, wback, outAt, outsFrom, ownsStay, retv, wipeF, unwipe, sto, isNone, tyD, cY, cMul, cMod, cDiv, cPow, Cell.dat, b2n, frzS, frzL, fzV, atI, ixN, fMulL, a2, b1, z1]
    · rcases List.mem_append.1 mz with mz | mz
      · exact (n2 z mz).mono
      · simp at mz
        subst mz
        have := (n2 x hx).2
        exact ⟨b3.mono (by omega) (by omega) (by omega), by rw [Nat.pow_succ]; omega⟩
  intro fm' i
  rw [ints_len] at i
  obtain ⟨x5, s, ms, rfl, n1, n2, n3, n4⟩ := i
  refine ⟨rfl, wp_seq (wp_for (ds := ms) (fm0 := [some s, some (.dat (dShop S)), some (.dat (.list (dI es))), some (.dat (.list ms)), x4, x5, none, none, none, none, none, none]) (fun k fm => ∃ x6 x7 x8 x9, fm = [some s, some (.dat (dShop S)), some (.dat (.list (dI es))), some (.dat (.list ms)), x4, x5, x6, x7, x8, x9, none, none]) (by simp [mVar_ap, mLit_ap, m2_ap, mB_ap, mAndT_ap, mOrT_ap, mNotT_ap, mAndV_ap, mOrV_ap, mNotV_ap, mIfE_ap, mNil_ap, mCons_ap, mDisp_ap, gSet_ap, gsNil_ap, gsCons_ap, gTupD_ap, mSet_ap, mAsg_ap, mPar_ap, mExpr_ap, mRet_ap, mRetN_ap, mNext_ap, mBreak_ap, mCont_ap, mSeq_ap, mIf_ap, iSeq_ap, iRan_ap, iRan2_ap, iEnm_ap, iZp_ap, mFor_ap, mWhile_ap, mCall_ap, mkD_ap, fI_ap, fAdd_ap, fSub_ap, fMul_ap, fMod_ap, fDiv_ap, fPow_ap, fLt_ap, fLe_ap, fGt_ap, fGe_ap, fIsN_ap, fNotN_ap, fIsB_ap, fIx_ap, fAddX_ap, fSubX_ap, fMulX_ap, m1_ap, fNeg_ap, mB1_ap, fLen_ap, fAbs_ap, fInt_ap, fMin2_ap, fMax2_ap, fList_ap, fTuple_ap, fStr_ap, mMt_ap, mMtZ_ap, fAppend_ap, fInsert_ap, fExtend_ap, fPopAt_ap, mChain_ap, oNone_ap, oSome_ap, mSl_ap, gIx_ap, fInX_ap, fNotInX_ap, mIsi_ap, fEqX_ap, fNeX_ap, fAll_ap, fAny_ap, fSum_ap, fSorted_ap, fBest_ap, fIdx_ap, fRepr_ap, mPermA_ap, fBack_ap, gSplice_ap, mSortSet_ap, fMulY_ap, mTupRan_ap, mFz_ap, mGh_ap, fIsX_ap, mGhO_ap, ia_none_int, ia_none_bool, ia_none_list, ia_none_tuple, ia_none_str, ia_none_seq, ia_bool_int, ia_bool_bool, ia_bool_list, ia_bool_tuple, ia_bool_str, ia_bool_seq, ia_int_int, ia_int_bool, ia_int_list, ia_int_tuple, ia_int_str, ia_int_seq, ia_str_int, ia_str_bool, ia_str_list, ia_str_tuple, ia_str_str, ia_str_seq, ia_list_int, ia_list_bool, ia_list_list, ia_list_tuple, ia_list_str, ia_list_seq, ia_tuple_int, ia_tuple_bool, ia_tuple_list, ia_tuple_tuple, ia_tuple_str, ia_tuple_seq, mLst_ap, mTup_ap, mYes_ap, sizeLine_v, shaped_int, eqv_int, shaped_bool, eqv_bool, shaped_none, shaped_nilT, shaped_nilL, frz, frzAll, peek, res1, resAll, stoAll, argOf, argsOf, bors, wback, outAt, outsFrom, ownsStay, retv, wipeF, unwipe, sto, isNone, tyD, cY, cMul, cMod, cDiv, cPow, Cell.dat, b2n, frzS, frzL, fzV, atI, ixN, fMulL]) ⟨_, _, _, _, rfl⟩ ?_ ?_)⟩
  · intro j d m fm i
    obtain ⟨x6, x7, x8, x9, rfl⟩ := i
    have hd := n2 d (List.mem_of_getElem? m)
    have hp := hd.pl
    have hrep : okRepr d = true := hd.1.repr (by decide) (by omega) (by have := hd.2; omega)
    have f1 : D_is_overfull 28 [.dat (dShop S), .dat d] = _ := h_due 26 ok (by omega) (by omega) d hp
    have f2 : Dshows_overfull 28 [.dat (dShop S), .dat d] = _ := h_shows 25 ok (by omega) (by omega) true d hp
    have f3 : Dshows_overfull 28 [.dat (shopD false S), .dat d] = _ := h_shows 25 ok (by omega) (by omega) false d hp
    obtain ⟨v, f4, f5⟩ := h_lists (l := 10) (b := 10 ^ 9) (by omega) 3 24 (dShop S) (ok_shop ok (by omega) (by omega))
    have f4' : D_lists 28 [.dat (dShop S)] = some (v, [.dat (dShop S)]) := f4
    rw [lsD_shop] at f5
    obtain ⟨outs, f7⟩ := h_same (l := 10) (b := 10 ^ 9) (by omega) 1 26 (.list [.bool (ovB S d), .bool (ovB S d)]) (.dat (.list [.bool (ovB S d), .bool (ovB S d)])) (.dat (.list [.bool (ovB S d), .bool (ovB S d)])) ⟨by simp, by simp [Ok]⟩ (.inl rfl) (.inl rfl)
    have f7' : D_same 28 [.dat (.list [.bool (ovB S d), .bool (ovB S d)]), .dat (.list [.bool (ovB S d), .bool (ovB S d)])] = some (.dat (.bool true), outs) := f7
    rcases f5 with rfl | ⟨ls, rfl, f6⟩
    · exact ⟨_, rfl, wp_gh (by simp [mVar_ap, mLit_ap, m2_ap, mB_ap, mAndT_ap, mOrT_ap, mNotT_ap, mAndV_ap, mOrV_ap, mNotV_ap, mIfE_ap, mNil_ap, mCons_ap, mDisp_ap, gSet_ap, gsNil_ap, gsCons_ap, gTupD_ap, mSet_ap, mAsg_ap, mPar_ap, mExpr_ap, mRet_ap, mRetN_ap, mNext_ap, mBreak_ap, mCont_ap, mSeq_ap, mIf_ap, iSeq_ap, iRan_ap, iRan2_ap, iEnm_ap, iZp_ap, mFor_ap, mWhile_ap, mCall_ap, mkD_ap, fI_ap, fAdd_ap, fSub_ap, fMul_ap, fMod_ap, fDiv_ap, fPow_ap, fLt_ap, fLe_ap, fGt_ap, fGe_ap, fIsN_ap, fNotN_ap, fIsB_ap, fIx_ap, fAddX_ap, fSubX_ap, fMulX_ap, m1_ap, fNeg_ap, mB1_ap, fLen_ap, fAbs_ap, fInt_ap, fMin2_ap, fMax2_ap, fList_ap, fTuple_ap, fStr_ap, mMt_ap, mMtZ_ap, fAppend_ap, fInsert_ap, fExtend_ap, fPopAt_ap, mChain_ap, oNone_ap, oSome_ap, mSl_ap, gIx_ap, fInX_ap, fNotInX_ap, mIsi_ap, fEqX_ap, fNeX_ap, fAll_ap, fAny_ap, fSum_ap, fSorted_ap, fBest_ap, fIdx_ap, fRepr_ap, mPermA_ap, fBack_ap, gSplice_ap, mSortSet_ap, fMulY_ap, mTupRan_ap, mFz_ap, mGh_ap, fIsX_ap, mGhO_ap, ia_none_int, ia_none_bool, ia_none_list, ia_none_tuple, ia_none_str, ia_none_seq, ia_bool_int, ia_bool_bool, ia_bool_list, ia_bool_tuple, ia_bool_str, ia_bool_seq, ia_int_int, ia_int_bool, ia_int_list, ia_int_tuple, ia_int_str, ia_int_seq, ia_str_int, ia_str_bool, ia_str_list, ia_str_tuple, ia_str_str, ia_str_seq, ia_list_int, ia_list_bool, ia_list_list, ia_list_tuple, ia_list_str, ia_list_seq, ia_tuple_int, ia_tuple_bool, ia_tuple_list, ia_tuple_tuple, ia_tuple_str, ia_tuple_seq, mLst_ap, mTup_ap, mYes_ap, sizeLine_v, shaped_int, eqv_int, shaped_bool, eqv_bool, shaped_none, shaped_nilT, shaped_nilL, frz, frzAll, peek, res1, resAll, stoAll, argOf, argsOf, bors, wback, outAt, outsFrom, ownsStay, retv, wipeF, unwipe, sto, isNone, tyD, cY, cMul, cMod, cDiv, cPow, Cell.dat, b2n, frzS, frzL, fzV, atI, ixN, fMulL, f1, hrep]; (try first | rfl | exact ⟨rfl, rfl⟩ | exact ⟨rfl, rfl, rfl⟩ | exact ⟨rfl, rfl, rfl, rfl⟩ | exact ⟨rfl, rfl, rfl, rfl, rfl⟩)) (wp_gh (by simp [mVar_ap, mLit_ap, m2_ap, mB_ap, mAndT_ap, mOrT_ap, mNotT_ap, mAndV_ap, mOrV_ap, mNotV_ap, mIfE_ap, mNil_ap, mCons_ap, mDisp_ap, gSet_ap, gsNil_ap, gsCons_ap, gTupD_ap, mSet_ap, mAsg_ap, mPar_ap, mExpr_ap, mRet_ap, mRetN_ap, mNext_ap, mBreak_ap, mCont_ap, mSeq_ap, mIf_ap, iSeq_ap, iRan_ap, iRan2_ap, iEnm_ap, iZp_ap, mFor_ap, mWhile_ap, mCall_ap, mkD_ap, fI_ap, fAdd_ap, fSub_ap, fMul_ap, fMod_ap, fDiv_ap, fPow_ap, fLt_ap, fLe_ap, fGt_ap, fGe_ap, fIsN_ap, fNotN_ap, fIsB_ap, fIx_ap, fAddX_ap, fSubX_ap, fMulX_ap, m1_ap, fNeg_ap, mB1_ap, fLen_ap, fAbs_ap, fInt_ap, fMin2_ap, fMax2_ap, fList_ap, fTuple_ap, fStr_ap, mMt_ap, mMtZ_ap, fAppend_ap, fInsert_ap, fExtend_ap, fPopAt_ap, mChain_ap, oNone_ap, oSome_ap, mSl_ap, gIx_ap, fInX_ap, fNotInX_ap, mIsi_ap, fEqX_ap, fNeX_ap, fAll_ap, fAny_ap, fSum_ap, fSorted_ap, fBest_ap, fIdx_ap, fRepr_ap, mPermA_ap, fBack_ap, gSplice_ap, mSortSet_ap, fMulY_ap, mTupRan_ap, mFz_ap, mGh_ap, fIsX_ap, mGhO_ap, ia_none_int, ia_none_bool, ia_none_list, ia_none_tuple, ia_none_str, ia_none_seq, ia_bool_int, ia_bool_bool, ia_bool_list, ia_bool_tuple, ia_bool_str, ia_bool_seq, ia_int_int, ia_int_bool, ia_int_list, ia_int_tuple, ia_int_str, ia_int_seq, ia_str_int, ia_str_bool, ia_str_list, ia_str_tuple, ia_str_str, ia_str_seq, ia_list_int, ia_list_bool, ia_list_list, ia_list_tuple, ia_list_str, ia_list_seq, ia_tuple_int, ia_tuple_bool, ia_tuple_list, ia_tuple_tuple, ia_tuple_str, ia_tuple_seq, mLst_ap, mTup_ap, mYes_ap, sizeLine_v, shaped_int, eqv_int, shaped_bool, eqv_bool, shaped_none, shaped_nilT, shaped_nilL, frz, frzAll, peek, res1, resAll, stoAll, argOf, argsOf, bors, wback, outAt, outsFrom, ownsStay, retv, wipeF, unwipe, sto, isNone, tyD, cY, cMul, cMod, cDiv, cPow, Cell.dat, b2n, frzS, frzL, fzV, atI, ixN, fMulL, f2, f3, f4', okPm, permL]; (try first | rfl | exact ⟨rfl, rfl⟩ | exact ⟨rfl, rfl, rfl⟩ | exact ⟨rfl, rfl, rfl, rfl⟩ | exact ⟨rfl, rfl, rfl, rfl, rfl⟩)) (wp_is (fl := .nx) (by simp [mVar_ap, mLit_ap, m2_ap, mB_ap, mAndT_ap, mOrT_ap, mNotT_ap, mAndV_ap, mOrV_ap, mNotV_ap, mIfE_ap, mNil_ap, mCons_ap, mDisp_ap, gSet_ap, gsNil_ap, gsCons_ap, gTupD_ap, mSet_ap, mAsg_ap, mPar_ap, mExpr_ap, mRet_ap, mRetN_ap, mNext_ap, mBreak_ap, mCont_ap, mSeq_ap, mIf_ap, iSeq_ap, iRan_ap, iRan2_ap, iEnm_ap, iZp_ap, mFor_ap, mWhile_ap, mCall_ap, mkD_ap, fI_ap, fAdd_ap, fSub_ap, fMul_ap, fMod_ap, fDiv_ap, fPow_ap, fLt_ap, fLe_ap, fGt_ap, fGe_ap, fIsN_ap, fNotN_ap, fIsB_ap, fIx_ap, fAddX_ap, fSubX_ap, fMulX_ap, m1_ap, fNeg_ap, mB1_ap, fLen_ap, fAbs_ap, fInt_ap, fMin2_ap, fMax2_ap, fList_ap, fTuple_ap, fStr_ap, mMt_ap, mMtZ_ap, fAppend_ap, fInsert_ap, fExtend_ap, fPopAt_ap, mChain_ap, oNone_ap, oSome_ap, mSl_ap, gIx_ap, fInX_ap, fNotInX_ap, mIsi_ap, fEqX_ap, fNeX_ap, fAll_ap, fAny_ap, fSum_ap, fSorted_ap, fBest_ap, fIdx_ap, fRepr_ap, mPermA_ap, fBack_ap, gSplice_ap, mSortSet_ap, fMulY_ap, mTupRan_ap, mFz_ap, mGh_ap, fIsX_ap, mGhO_ap, ia_none_int, ia_none_bool, ia_none_list, ia_none_tuple, ia_none_str, ia_none_seq, ia_bool_int, ia_bool_bool, ia_bool_list, ia_bool_tuple, ia_bool_str, ia_bool_seq, ia_int_int, ia_int_bool, ia_int_list, ia_int_tuple, ia_int_str, ia_int_seq, ia_str_int, ia_str_bool, ia_str_list, ia_str_tuple, ia_str_str, ia_str_seq, ia_list_int, ia_list_bool, ia_list_list, ia_list_tuple, ia_list_str, ia_list_seq, ia_tuple_int, ia_tuple_bool, ia_tuple_list, ia_tuple_tuple, ia_tuple_str, ia_tuple_seq, mLst_ap, mTup_ap, mYes_ap, sizeLine_v, shaped_int, eqv_int, shaped_bool, eqv_bool, shaped_none, shaped_nilT, shaped_nilL, frz, frzAll, peek, res1, resAll, stoAll, argOf, argsOf, bors, wback, outAt, outsFrom, ownsStay, retv, wipeF, unwipe, sto, isNone, tyD, cY, cMul, cMod, cDiv, cPow, Cell.dat, b2n, frzS, frzL, fzV, atI, ixN, fMulL, f7', wback_d2, hrep]; (try first | rfl | exact ⟨rfl, rfl⟩ | exact ⟨rfl, rfl, rfl⟩ | exact ⟨rfl, rfl, rfl, rfl⟩ | exact ⟨rfl, rfl, rfl, rfl, rfl⟩)) ⟨rfl, _, _, _, _, rfl⟩))⟩
    · rw [f6] at f3
      exact ⟨_, rfl, wp_gh (by simp [mVar_ap, mLit_ap, m2_ap, mB_ap, mAndT_ap, mOrT_ap, mNotT_ap, mAndV_ap, mOrV_ap, mNotV_ap, mIfE_ap, mNil_ap, mCons_ap, mDisp_ap, gSet_ap, gsNil_ap, gsCons_ap, gTupD_ap, mSet_ap, mAsg_ap, mPar_ap, mExpr_ap, mRet_ap, mRetN_ap, mNext_ap, mBreak_ap, mCont_ap, mSeq_ap, mIf_ap, iSeq_ap, iRan_ap, iRan2_ap, iEnm_ap, iZp_ap, mFor_ap, mWhile_ap, mCall_ap, mkD_ap, fI_ap, fAdd_ap, fSub_ap, fMul_ap, fMod_ap, fDiv_ap, fPow_ap, fLt_ap, fLe_ap, fGt_ap, fGe_ap, fIsN_ap, fNotN_ap, fIsB_ap, fIx_ap, fAddX_ap, fSubX_ap, fMulX_ap, m1_ap, fNeg_ap, mB1_ap, fLen_ap, fAbs_ap, fInt_ap, fMin2_ap, fMax2_ap, fList_ap, fTuple_ap, fStr_ap, mMt_ap, mMtZ_ap, fAppend_ap, fInsert_ap, fExtend_ap, fPopAt_ap, mChain_ap, oNone_ap, oSome_ap, mSl_ap, gIx_ap, fInX_ap, fNotInX_ap, mIsi_ap, fEqX_ap, fNeX_ap, fAll_ap, fAny_ap, fSum_ap, fSorted_ap, fBest_ap, fIdx_ap, fRepr_ap, mPermA_ap, fBack_ap, gSplice_ap, mSortSet_ap, fMulY_ap, mTupRan_ap, mFz_ap, mGh_ap, fIsX_ap, mGhO_ap, ia_none_int, ia_none_bool, ia_none_list, ia_none_tuple, ia_none_str, ia_none_seq, ia_bool_int, ia_bool_bool, ia_bool_list, ia_bool_tuple, ia_bool_str, ia_bool_seq, ia_int_int, ia_int_bool, ia_int_list, ia_int_tuple, ia_int_str, ia_int_seq, ia_str_int, ia_str_bool, ia_str_list, ia_str_tuple, ia_str_str, ia_str_seq, ia_list_int, ia_list_bool, ia_list_list, ia_list_tuple, ia_list_str, ia_list_seq, ia_tuple_int, ia_tuple_bool, ia_tuple_list, ia_tuple_tuple, ia_tuple_str, ia_tuple_seq, mLst_ap, mTup_ap, mYes_ap, sizeLine_v, shaped_int, eqv_int, shaped_bool, eqv_bool, shaped_none, shaped_nilT, shaped_nilL, frz, frzAll, peek, res1, resAll, stoAll, argOf, argsOf, bors, wback, outAt, outsFrom, ownsStay, retv, wipeF, unwipe, sto, isNone, tyD, cY, cMul, cMod, cDiv, cPow, Cell.dat, b2n, frzS, frzL, fzV, atI, ixN, fMulL, f1, hrep]; (try first | rfl | exact ⟨rfl, rfl⟩ | exact ⟨rfl, rfl, rfl⟩ | exact ⟨rfl, rfl, rfl, rfl⟩ | exact ⟨rfl, rfl, rfl, rfl, rfl⟩)) (wp_gh (by simp [mVar_ap, mLit_ap, m2_ap, mB_ap, mAndT_ap, mOrT_ap, mNotT_ap, mAndV_ap, mOrV_ap, mNotV_ap, mIfE_ap, mNil_ap, mCons_ap, mDisp_ap, gSet_ap, gsNil_ap, gsCons_ap, gTupD_ap, mSet_ap, mAsg_ap, mPar_ap, mExpr_ap, mRet_ap, mRetN_ap, mNext_ap, mBreak_ap, mCont_ap, mSeq_ap, mIf_ap, iSeq_ap, iRan_ap, iRan2_ap, iEnm_ap, iZp_ap, mFor_ap, mWhile_ap, mCall_ap, mkD_ap, fI_ap, fAdd_ap, fSub_ap, fMul_ap, fMod_ap, fDiv_ap, fPow_ap, fLt_ap, fLe_ap, fGt_ap, fGe_ap, fIsN_ap, fNotN_ap, fIsB_ap, fIx_ap, fAddX_ap, fSubX_ap, fMulX_ap, m1_ap, fNeg_ap, mB1_ap, fLen_ap, fAbs_ap, fInt_ap, fMin2_ap, fMax2_ap, fList_ap, fTuple_ap, fStr_ap, mMt_ap, mMtZ_ap, fAppend_ap, fInsert_ap, fExtend_ap, fPopAt_ap, mChain_ap, oNone_ap, oSome_ap, mSl_ap, gIx_ap, fInX_ap, fNotInX_ap, mIsi_ap, fEqX_ap, fNeX_ap, fAll_ap, fAny_ap, fSum_ap, fSorted_ap, fBest_ap, fIdx_ap, fRepr_ap, mPermA_ap, fBack_ap, gSplice_ap, mSortSet_ap, fMulY_ap, mTupRan_ap, mFz_ap, mGh_ap, fIsX_ap, mGhO_ap, ia_none_int, ia_none_bool, ia_none_list, ia_none_tuple, ia_none_str, ia_none_seq, ia_bool_int, ia_bool_bool, ia_bool_list, ia_bool_tuple, ia_bool_str, ia_bool_seq, ia_int_int, ia_int_bool, ia_int_list, ia_int_tuple, ia_int_str, ia_int_seq, ia_str_int, ia_str_bool, ia_str_list, ia_str_tuple, ia_str_str, ia_str_seq, ia_list_int, ia_list_bool, ia_list_list, ia_list_tuple, ia_list_str, ia_list_seq, ia_tuple_int, ia_tuple_bool, ia_tuple_list, ia_tuple_tuple, ia_tuple_str, ia_tuple_seq, mLst_ap, mTup_ap, mYes_ap, sizeLine_v, shaped_int, eqv_int, shaped_bool, eqv_bool, shaped_none, shaped_nilT, shaped_nilL, frz, frzAll, peek, res1, resAll, stoAll, argOf, argsOf, bors, wback, outAt, outsFrom, ownsStay, retv, wipeF, unwipe, sto, isNone, tyD, cY, cMul, cMod, cDiv, cPow, Cell.dat, b2n, frzS, frzL, fzV, atI, ixN, fMulL, f2, f3, f4', okPm, permL]; (try first | rfl | exact ⟨rfl, rfl⟩ | exact ⟨rfl, rfl, rfl⟩ | exact ⟨rfl, rfl, rfl, rfl⟩ | exact ⟨rfl, rfl, rfl, rfl, rfl⟩)) (wp_is (fl := .nx) (by simp [mVar_ap, mLit_ap, m2_ap, mB_ap, mAndT_ap, mOrT_ap, mNotT_ap, mAndV_ap, mOrV_ap, mNotV_ap, mIfE_ap, mNil_ap, mCons_ap, mDisp_ap, gSet_ap, gsNil_ap, gsCons_ap, gTupD_ap, mSet_ap, mAsg_ap, mPar_ap, mExpr_ap, mRet_ap, mRetN_ap, mNext_ap, mBreak_ap, mCont_ap, mSeq_ap, mIf_ap, iSeq_ap, iRan_ap, iRan2_ap, iEnm_ap, iZp_ap, mFor_ap, mWhile_ap, mCall_ap, mkD_ap, fI_ap, fAdd_ap, fSub_ap, fMul_ap, fMod_ap, fDiv_ap, fPow_ap, fLt_ap, fLe_ap, fGt_ap, fGe_ap, fIsN_ap, fNotN_ap, fIsB_ap, fIx_ap, fAddX_ap, fSubX_ap, fMulX_ap, m1_ap, fNeg_ap, mB1_ap, fLen_ap, fAbs_ap, fInt_ap, fMin2_ap, fMax2_ap, fList_ap, fTuple_ap, fStr_ap, mMt_ap, mMtZ_ap, fAppend_ap, fInsert_ap, fExtend_ap, fPopAt_ap, mChain_ap, oNone_ap, oSome_ap, mSl_ap, gIx_ap, fInX_ap, fNotInX_ap, mIsi_ap, fEqX_ap, fNeX_ap, fAll_ap, fAny_ap, fSum_ap, fSorted_ap, fBest_ap, fIdx_ap, fRepr_ap, mPermA_ap, fBack_ap, gSplice_ap, mSortSet_ap, fMulY_ap, mTupRan_ap, mFz_ap, mGh_ap, fIsX_ap, mGhO_ap, ia_none_int, ia_none_bool, ia_none_list, ia_none_tuple, ia_none_str, ia_none_seq, ia_bool_int, ia_bool_bool, ia_bool_list, ia_bool_tuple, ia_bool_str, ia_bool_seq, ia_int_int, ia_int_bool, ia_int_list, ia_int_tuple, ia_int_str, ia_int_seq, ia_str_int, ia_str_bool, ia_str_list, ia_str_tuple, ia_str_str, ia_str_seq, ia_list_int, ia_list_bool, ia_list_list, ia_list_tuple, ia_list_str, ia_list_seq, ia_tuple_int, ia_tuple_bool, ia_tuple_list, ia_tuple_tuple, ia_tuple_str, ia_tuple_seq, mLst_ap, mTup_ap, mYes_ap, sizeLine_v, shaped_int, eqv_int, shaped_bool, eqv_bool, shaped_none, shaped_nilT, shaped_nilL, frz, frzAll, peek, res1, resAll, stoAll, argOf, argsOf, bors, wback, outAt, outsFrom, ownsStay, retv, wipeF, unwipe, sto, isNone, tyD, cY, cMul, cMod, cDiv, cPow, Cell.dat, b2n, frzS, frzL, fzV, atI, ixN, fMulL, f7', wback_d2, hrep]; (try first | rfl | exact ⟨rfl, rfl⟩ | exact ⟨rfl, rfl, rfl⟩ | exact ⟨rfl, rfl, rfl, rfl⟩ | exact ⟨rfl, rfl, rfl, rfl, rfl⟩)) ⟨rfl, _, _, _, _, rfl⟩))⟩
  · intro fm' i
    obtain ⟨x6, x7, x8, x9, rfl⟩ := i
    refine ⟨rfl, wp_is (by simp [mVar_ap, mLit_ap, m2_ap, mB_ap, mAndT_ap, mOrT_ap, mNotT_ap, mAndV_ap, mOrV_ap, mNotV_ap, mIfE_ap, mNil_ap, mCons_ap, mDisp_ap, gSet_ap, gsNil_ap, gsCons_ap, gTupD_ap, mSet_ap, mAsg_ap, mPar_ap, mExpr_ap, mRet_ap, mRetN_ap, mNext_ap, mBreak_ap, mCont_ap, mSeq_ap, mIf_ap, iSeq_ap, iRan_ap, iRan2_ap, iEnm_ap, iZp_ap, mFor_ap, mWhile_ap, mCall_ap, mkD_ap, fI_ap, fAdd_ap, fSub_ap, fMul_ap, fMod_ap, fDiv_ap, fPow_ap, fLt_ap, fLe_ap, fGt_ap, fGe_ap, fIsN_ap, fNotN_ap, fIsB_ap, fIx_ap, fAddX_ap, fSubX_ap, fMulX_ap, m1_ap, fNeg_ap, mB1_ap, fLen_ap, fAbs_ap, fInt_ap, fMin2_ap, fMax2_ap, fList_ap, fTuple_ap, fStr_ap, mMt_ap, mMtZ_ap, fAppend_ap, fInsert_ap, fExtend_ap, fPopAt_ap, mChain_ap, oNone_ap, oSome_ap, mSl_ap, gIx_ap, fInX_ap, fNotInX_ap, mIsi_ap, fEqX_ap, fNeX_ap, fAll_ap, fAny_ap, fSum_ap, fSorted_ap, fBest_ap, fIdx_ap, fRepr_ap, mPermA_ap, fBack_ap, gSplice_ap, mSortSet_ap, fMulY_ap, mTupRan_ap, mFz_ap, mGh_ap, fIsX_ap, mGhO_ap, ia_none_int, ia_none_bool, ia_none_list, ia_none_tuple, ia_none_str, ia_none_seq, ia_bool_int, ia_bool_bool, ia_bool_list, ia_bool_tuple, ia_bool_str, ia_bool_seq, ia_int_int, ia_int_bool, ia_int_list, ia_int_tuple, ia_int_str, ia_int_seq, ia_str_int, ia_str_bool, ia_str_list, ia_str_tuple, ia_str_str, ia_str_seq, ia_list_int, ia_list_bool, ia_list_list, ia_list_tuple, ia_list_str, ia_list_seq, ia_tuple_int, ia_tuple_bool, ia_tuple_list, ia_tuple_tuple, ia_tuple_str, ia_tuple_seq, mLst_ap, mTup_ap, mYes_ap, sizeLine_v, shaped_int, eqv_int, shaped_bool, eqv_bool, shaped_none, shaped_nilT, shaped_nilL, frz, frzAll, peek, res1, resAll, stoAll, argOf, argsOf, bors, wback, outAt, outsFrom, ownsStay, retv, wipeF, unwipe, sto, isNone, tyD, cY, cMul, cMod, cDiv, cPow, Cell.dat, b2n, frzS, frzL, fzV, atI, ixN, fMulL]; (try first | rfl | exact ⟨rfl, rfl⟩ | exact ⟨rfl, rfl, rfl⟩ | exact ⟨rfl, rfl, rfl, rfl⟩ | exact ⟨rfl, rfl, rfl, rfl, rfl⟩)) ⟨_, _, _, _, rfl, rfl, by simp [mVar_ap, mLit_ap, m2_ap, mB_ap, mAndT_ap, mOrT_ap, mNotT_ap, mAndV_ap, mOrV_ap, mNotV_ap, mIfE_ap, mNil_ap, mCons_ap, mDisp_ap, gSet_ap, gsNil_ap, gsCons_ap, gTupD_ap, mSet_ap, mAsg_ap, mPar_ap, mExpr_ap, mRet_ap, mRetN_ap, mNext_ap, mBreak_ap, mCont_ap, mSeq_ap, mIf_ap, iSeq_ap, iRan_ap, iRan2_ap, iEnm_ap, iZp_ap, mFor_ap, mWhile_ap, mCall_ap, mkD_ap, fI_ap, fAdd_ap, fSub_ap, fMul_ap, fMod_ap, fDiv_ap, fPow_ap, fLt_ap, fLe_ap, fGt_ap, fGe_ap, fIsN_ap, fNotN_ap, fIsB_ap, fIx_ap, fAddX_ap, fSubX_ap, fMulX_ap, m1_ap, fNeg_ap, mB1_ap, fLen_ap, fAbs_ap, fInt_ap, fMin2_ap, fMax2_ap, fList_ap, fTuple_ap, fStr_ap, mMt_ap, mMtZ_ap, fAppend_ap, fInsert_ap, fExtend_ap, fPopAt_ap, mChain_ap, oNone_ap, oSome_ap, mSl_ap, gIx_ap, fInX_ap, fNotInX_ap, mIsi_ap, fEqX_ap, fNeX_ap, fAll_ap, fAny_ap, fSum_ap, fSorted_ap, fBest_ap, fIdx_ap, fRepr_ap, mPermA_ap, fBack_ap, gSplice_ap, mSortSet_ap, fMulY_ap, mTupRan_ap, mFz_ap, mGh_ap, fIsX_ap, mGhO_ap, ia_none_int, ia_none_bool, ia_none_list, ia_none_tuple, ia_none_str, ia_none_seq, ia_bool_int, ia_bool_bool, ia_bool_list, ia_bool_tuple, ia_bool_str, ia_bool_seq, ia_int_int, ia_int_bool, ia_int_list, ia_int_tuple, ia_int_str, ia_int_seq, ia_str_int, ia_str_bool, ia_str_list, ia_str_tuple, ia_str_str, ia_str_seq, ia_list_int, ia_list_bool, ia_list_list, ia_list_tuple, ia_list_str, ia_list_seq, ia_tuple_int, ia_tuple_bool, ia_tuple_list, ia_tuple_tuple, ia_tuple_str, ia_tuple_seq, mLst_ap, mTup_ap, mYes_ap, sizeLine_v, shaped_int, eqv_int, shaped_bool, eqv_bool, shaped_none, shaped_nilT, shaped_nilL, frz, frzAll, peek, res1, resAll, stoAll, argOf, argsOf, bors, wback, outAt, outsFrom, ownsStay, retv, wipeF, unwipe, sto, isNone, tyD, cY, cMul, cMod, cDiv, cPow, Cell.dat, b2n, frzS, frzL, fzV, atI, ixN, fMulL]; (try first | rfl | exact ⟨rfl, rfl⟩ | exact ⟨rfl, rfl, rfl⟩ | exact ⟨rfl, rfl, rfl, rfl⟩ | exact ⟨rfl, rfl, rfl, rfl, rfl⟩), rfl, _, rfl, n1.mono (by omega)⟩⟩
theorem law_all (ns : List Int) (h : ns.length ≤ 63) : ∃ outs, Dlaw 30 [.dat (scr ns)] = some (.dat (.bool true), outs) := by
  rw [elaw]
  exact law_gen (A := 3) (T := 1) (c := 2000) (by omega) (by omega) (by omega) (by omega) (by omega) (by omega) (h_box 28) h_right rfl ns h
end Lk06

namespace Lk06
open PySem PySem.Spec PyProof.Rows L2 Rf
def dLaw : Dm := dm 40 dlaw (envD 40 defs bl 30) bl
/-! ### what the top has written -/
theorem df_mk {K : PySem.W.Frag} {h : Heap} {mg : Str → Option Value} (X : K.In h) (G : h.Ns mainGlobals mg) {d : DR} {f : Addr} {od an : Option Addr} {sl : Array (Option Value)} {oc kV dc pm cd ct : Value}
    (a : PySem.W.nsIn K mainGlobals d.name = some (some (.ref f))) (l : K.lookup f = some ⟨oc, od, .func (PySem.W.fnOf d.name d.name (defArgs d.st) (defBody d.st) (defScope d.st) .none kV dc pm an cd ct), sl⟩) (c : PySem.W.codeIn K cd d.name = true) (k : PySem.W.keepIn K (.ref f) = true)
    (hb : ∀ (kV doc pm : Value) (an : Option Addr) (cdv ct : Value) (us : List Value), us.length = d.ps.length → bindArgs (PySem.W.fnOf d.name d.name (defArgs d.st) (defBody d.st) (defScope d.st) .none kV doc pm an cdv ct) ⟨us, []⟩ = pure (d.ps.zip us))
    (hk : ∀ ks ∈ d.kws, ∀ (kV doc pm : Value) (an : Option Addr) (cdv ct : Value) (ws : List Value), ws.length = ks.length → bindArgs (PySem.W.fnOf d.name d.name (defArgs d.st) (defBody d.st) (defScope d.st) .none kV doc pm an cdv ct) ⟨[], ks.zip ws⟩ = pure (d.ps.zip (permL (kwPm d.ps ks) ws)))
    (sc : FnScope d.N d.ps (defScope d.st)) (ro : ∀ i ∈ d.ro, i < d.ps.length) : DfOk K mg d := by
  have F := fun_mk (st := d.st) l c k
  exact ⟨⟨f, _, PySem.W.mg_of X G a, F, F.binds hb, fun ks hks s ws _ hl => .of_eq (hk ks hks _ _ _ _ _ _ ws hl)⟩, sc, ro⟩
theorem sc_dis_number : FnScope dis_number.N dis_number.ps (defScope dis_number.st) := ⟨rfl, rfl, rfl, by decide +kernel, rfl, by decide +kernel, by decide +kernel⟩
theorem hb_dis_number (kV doc pm : Value) (an : Option Addr) (cdv ct : Value) (us : List Value) (hl : us.length = dis_number.ps.length) : bindArgs (PySem.W.fnOf dis_number.name dis_number.name (defArgs dis_number.st) (defBody dis_number.st) (defScope dis_number.st) .none kV doc pm an cdv ct) ⟨us, []⟩ = pure (dis_number.ps.zip us) := match us, hl with | [_], _ => rfl
theorem hk_dis_number : ∀ ks ∈ dis_number.kws, ∀ (kV doc pm : Value) (an : Option Addr) (cdv ct : Value) (ws : List Value), ws.length = ks.length → bindArgs (PySem.W.fnOf dis_number.name dis_number.name (defArgs dis_number.st) (defBody dis_number.st) (defScope dis_number.st) .none kV doc pm an cdv ct) ⟨[], ks.zip ws⟩ = pure (dis_number.ps.zip (permL (kwPm dis_number.ps ks) ws)) := fun _ h => nomatch h
theorem sc_dis_pair : FnScope dis_pair.N dis_pair.ps (defScope dis_pair.st) := ⟨rfl, rfl, rfl, by decide +kernel, rfl, by decide +kernel, by decide +kernel⟩
theorem hb_dis_pair (kV doc pm : Value) (an : Option Addr) (cdv ct : Value) (us : List Value) (hl : us.length = dis_pair.ps.length) : bindArgs (PySem.W.fnOf dis_pair.name dis_pair.name (defArgs dis_pair.st) (defBody dis_pair.st) (defScope dis_pair.st) .none kV doc pm an cdv ct) ⟨us, []⟩ = pure (dis_pair.ps.zip us) := match us, hl with | [_], _ => rfl
theorem hk_dis_pair : ∀ ks ∈ dis_pair.kws, ∀ (kV doc pm : Value) (an : Option Addr) (cdv ct : Value) (ws : List Value), ws.length = ks.length → bindArgs (PySem.W.fnOf dis_pair.name dis_pair.name (defArgs dis_pair.st) (defBody dis_pair.st) (defScope dis_pair.st) .none kV doc pm an cdv ct) ⟨[], ks.zip ws⟩ = pure (dis_pair.ps.zip (permL (kwPm dis_pair.ps ks) ws)) := fun _ h => nomatch h
theorem sc_dis_interval : FnScope dis_interval.N dis_interval.ps (defScope dis_interval.st) := ⟨rfl, rfl, rfl, by decide +kernel, rfl, by decide +kernel, by decide +kernel⟩
theorem hb_dis_interval (kV doc pm : Value) (an : Option Addr) (cdv ct : Value) (us : List Value) (hl : us.length = dis_interval.ps.length) : bindArgs (PySem.W.fnOf dis_interval.name dis_interval.name (defArgs dis_interval.st) (defBody dis_interval.st) (defScope dis_interval.st) .none kV doc pm an cdv ct) ⟨us, []⟩ = pure (dis_interval.ps.zip us) := match us, hl with | [_], _ => rfl
theorem hk_dis_interval : ∀ ks ∈ dis_interval.kws, ∀ (kV doc pm : Value) (an : Option Addr) (cdv ct : Value) (ws : List Value), ws.length = ks.length → bindArgs (PySem.W.fnOf dis_interval.name dis_interval.name (defArgs dis_interval.st) (defBody dis_interval.st) (defScope dis_interval.st) .none kV doc pm an cdv ct) ⟨[], ks.zip ws⟩ = pure (dis_interval.ps.zip (permL (kwPm dis_interval.ps ks) ws)) := fun _ h => nomatch h
theorem sc_dshortage : FnScope dshortage.N dshortage.ps (defScope dshortage.st) := ⟨rfl, rfl, rfl, by decide +kernel, rfl, by decide +kernel, by decide +kernel⟩
theorem hb_dshortage (kV doc pm : Value) (an : Option Addr) (cdv ct : Value) (us : List Value) (hl : us.length = dshortage.ps.length) : bindArgs (PySem.W.fnOf dshortage.name dshortage.name (defArgs dshortage.st) (defBody dshortage.st) (defScope dshortage.st) .none kV doc pm an cdv ct) ⟨us, []⟩ = pure (dshortage.ps.zip us) := match us, hl with | [_, _, _], _ => rfl
theorem hk_dshortage : ∀ ks ∈ dshortage.kws, ∀ (kV doc pm : Value) (an : Option Addr) (cdv ct : Value) (ws : List Value), ws.length = ks.length → bindArgs (PySem.W.fnOf dshortage.name dshortage.name (defArgs dshortage.st) (defBody dshortage.st) (defScope dshortage.st) .none kV doc pm an cdv ct) ⟨[], ks.zip ws⟩ = pure (dshortage.ps.zip (permL (kwPm dshortage.ps ks) ws)) := fun _ h => nomatch h
theorem sc_dshows_overfull : FnScope dshows_overfull.N dshows_overfull.ps (defScope dshows_overfull.st) := ⟨rfl, rfl, rfl, by decide +kernel, rfl, by decide +kernel, by decide +kernel⟩
theorem hb_dshows_overfull (kV doc pm : Value) (an : Option Addr) (cdv ct : Value) (us : List Value) (hl : us.length = dshows_overfull.ps.length) : bindArgs (PySem.W.fnOf dshows_overfull.name dshows_overfull.name (defArgs dshows_overfull.st) (defBody dshows_overfull.st) (defScope dshows_overfull.st) .none kV doc pm an cdv ct) ⟨us, []⟩ = pure (dshows_overfull.ps.zip us) := match us, hl with | [_, _], _ => rfl
theorem hk_dshows_overfull : ∀ ks ∈ dshows_overfull.kws, ∀ (kV doc pm : Value) (an : Option Addr) (cdv ct : Value) (ws : List Value), ws.length = ks.length → bindArgs (PySem.W.fnOf dshows_overfull.name dshows_overfull.name (defArgs dshows_overfull.st) (defBody dshows_overfull.st) (defScope dshows_overfull.st) .none kV doc pm an cdv ct) ⟨[], ks.zip ws⟩ = pure (dshows_overfull.ps.zip (permL (kwPm dshows_overfull.ps ks) ws)) := by
  intro ks h
  rcases List.mem_cons.mp h with rfl | h
  · exact fun kV doc pm an cdv ct ws hl => match ws, hl with | [_, _], _ => rfl
  cases h
theorem sc_d_box : FnScope d_box.N d_box.ps (defScope d_box.st) := ⟨rfl, rfl, rfl, by decide +kernel, rfl, by decide +kernel, by decide +kernel⟩
theorem hb_d_box (kV doc pm : Value) (an : Option Addr) (cdv ct : Value) (us : List Value) (hl : us.length = d_box.ps.length) : bindArgs (PySem.W.fnOf d_box.name d_box.name (defArgs d_box.st) (defBody d_box.st) (defScope d_box.st) .none kV doc pm an cdv ct) ⟨us, []⟩ = pure (d_box.ps.zip us) := match us, hl with | [_, _], _ => rfl
theorem hk_d_box : ∀ ks ∈ d_box.kws, ∀ (kV doc pm : Value) (an : Option Addr) (cdv ct : Value) (ws : List Value), ws.length = ks.length → bindArgs (PySem.W.fnOf d_box.name d_box.name (defArgs d_box.st) (defBody d_box.st) (defScope d_box.st) .none kV doc pm an cdv ct) ⟨[], ks.zip ws⟩ = pure (d_box.ps.zip (permL (kwPm d_box.ps ks) ws)) := fun _ h => nomatch h
theorem sc_d_take : FnScope d_take.N d_take.ps (defScope d_take.st) := ⟨rfl, rfl, rfl, by decide +kernel, rfl, by decide +kernel, by decide +kernel⟩
theorem hb_d_take (kV doc pm : Value) (an : Option Addr) (cdv ct : Value) (us : List Value) (hl : us.length = d_take.ps.length) : bindArgs (PySem.W.fnOf d_take.name d_take.name (defArgs d_take.st) (defBody d_take.st) (defScope d_take.st) .none kV doc pm an cdv ct) ⟨us, []⟩ = pure (d_take.ps.zip us) := match us, hl with | [_, _], _ => rfl
theorem hk_d_take : ∀ ks ∈ d_take.kws, ∀ (kV doc pm : Value) (an : Option Addr) (cdv ct : Value) (ws : List Value), ws.length = ks.length → bindArgs (PySem.W.fnOf d_take.name d_take.name (defArgs d_take.st) (defBody d_take.st) (defScope d_take.st) .none kV doc pm an cdv ct) ⟨[], ks.zip ws⟩ = pure (d_take.ps.zip (permL (kwPm d_take.ps ks) ws)) := fun _ h => nomatch h
theorem sc_d_pick : FnScope d_pick.N d_pick.ps (defScope d_pick.st) := ⟨rfl, rfl, rfl, by decide +kernel, rfl, by decide +kernel, by decide +kernel⟩
theorem hb_d_pick (kV doc pm : Value) (an : Option Addr) (cdv ct : Value) (us : List Value) (hl : us.length = d_pick.ps.length) : bindArgs (PySem.W.fnOf d_pick.name d_pick.name (defArgs d_pick.st) (defBody d_pick.st) (defScope d_pick.st) .none kV doc pm an cdv ct) ⟨us, []⟩ = pure (d_pick.ps.zip us) := match us, hl with | [_, _], _ => rfl
theorem hk_d_pick : ∀ ks ∈ d_pick.kws, ∀ (kV doc pm : Value) (an : Option Addr) (cdv ct : Value) (ws : List Value), ws.length = ks.length → bindArgs (PySem.W.fnOf d_pick.name d_pick.name (defArgs d_pick.st) (defBody d_pick.st) (defScope d_pick.st) .none kV doc pm an cdv ct) ⟨[], ks.zip ws⟩ = pure (d_pick.ps.zip (permL (kwPm d_pick.ps ks) ws)) := fun _ h => nomatch h
theorem sc_d_same : FnScope d_same.N d_same.ps (defScope d_same.st) := ⟨rfl, rfl, rfl, by decide +kernel, rfl, by decide +kernel, by decide +kernel⟩
theorem hb_d_same (kV doc pm : Value) (an : Option Addr) (cdv ct : Value) (us : List Value) (hl : us.length = d_same.ps.length) : bindArgs (PySem.W.fnOf d_same.name d_same.name (defArgs d_same.st) (defBody d_same.st) (defScope d_same.st) .none kV doc pm an cdv ct) ⟨us, []⟩ = pure (d_same.ps.zip us) := match us, hl with | [_, _], _ => rfl
theorem hk_d_same : ∀ ks ∈ d_same.kws, ∀ (kV doc pm : Value) (an : Option Addr) (cdv ct : Value) (ws : List Value), ws.length = ks.length → bindArgs (PySem.W.fnOf d_same.name d_same.name (defArgs d_same.st) (defBody d_same.st) (defScope d_same.st) .none kV doc pm an cdv ct) ⟨[], ks.zip ws⟩ = pure (d_same.ps.zip (permL (kwPm d_same.ps ks) ws)) := fun _ h => nomatch h
theorem sc_d_lists : FnScope d_lists.N d_lists.ps (defScope d_lists.st) := ⟨rfl, rfl, rfl, by decide +kernel, rfl, by decide +kernel, by decide +kernel⟩
theorem hb_d_lists (kV doc pm : Value) (an : Option Addr) (cdv ct : Value) (us : List Value) (hl : us.length = d_lists.ps.length) : bindArgs (PySem.W.fnOf d_lists.name d_lists.name (defArgs d_lists.st) (defBody d_lists.st) (defScope d_lists.st) .none kV doc pm an cdv ct) ⟨us, []⟩ = pure (d_lists.ps.zip us) := match us, hl with | [_], _ => rfl
theorem hk_d_lists : ∀ ks ∈ d_lists.kws, ∀ (kV doc pm : Value) (an : Option Addr) (cdv ct : Value) (ws : List Value), ws.length = ks.length → bindArgs (PySem.W.fnOf d_lists.name d_lists.name (defArgs d_lists.st) (defBody d_lists.st) (defScope d_lists.st) .none kV doc pm an cdv ct) ⟨[], ks.zip ws⟩ = pure (d_lists.ps.zip (permL (kwPm d_lists.ps ks) ws)) := fun _ h => nomatch h
theorem sc_d_shuffled : FnScope d_shuffled.N d_shuffled.ps (defScope d_shuffled.st) := ⟨rfl, rfl, rfl, by decide +kernel, rfl, by decide +kernel, by decide +kernel⟩
theorem hb_d_shuffled (kV doc pm : Value) (an : Option Addr) (cdv ct : Value) (us : List Value) (hl : us.length = d_shuffled.ps.length) : bindArgs (PySem.W.fnOf d_shuffled.name d_shuffled.name (defArgs d_shuffled.st) (defBody d_shuffled.st) (defScope d_shuffled.st) .none kV doc pm an cdv ct) ⟨us, []⟩ = pure (d_shuffled.ps.zip us) := match us, hl with | [_, _], _ => rfl
theorem hk_d_shuffled : ∀ ks ∈ d_shuffled.kws, ∀ (kV doc pm : Value) (an : Option Addr) (cdv ct : Value) (ws : List Value), ws.length = ks.length → bindArgs (PySem.W.fnOf d_shuffled.name d_shuffled.name (defArgs d_shuffled.st) (defBody d_shuffled.st) (defScope d_shuffled.st) .none kV doc pm an cdv ct) ⟨[], ks.zip ws⟩ = pure (d_shuffled.ps.zip (permL (kwPm d_shuffled.ps ks) ws)) := fun _ h => nomatch h
theorem sc_d_gauges : FnScope d_gauges.N d_gauges.ps (defScope d_gauges.st) := ⟨rfl, rfl, rfl, by decide +kernel, rfl, by decide +kernel, by decide +kernel⟩
theorem hb_d_gauges (kV doc pm : Value) (an : Option Addr) (cdv ct : Value) (us : List Value) (hl : us.length = d_gauges.ps.length) : bindArgs (PySem.W.fnOf d_gauges.name d_gauges.name (defArgs d_gauges.st) (defBody d_gauges.st) (defScope d_gauges.st) .none kV doc pm an cdv ct) ⟨us, []⟩ = pure (d_gauges.ps.zip us) := match us, hl with | [_, _], _ => rfl
theorem hk_d_gauges : ∀ ks ∈ d_gauges.kws, ∀ (kV doc pm : Value) (an : Option Addr) (cdv ct : Value) (ws : List Value), ws.length = ks.length → bindArgs (PySem.W.fnOf d_gauges.name d_gauges.name (defArgs d_gauges.st) (defBody d_gauges.st) (defScope d_gauges.st) .none kV doc pm an cdv ct) ⟨[], ks.zip ws⟩ = pure (d_gauges.ps.zip (permL (kwPm d_gauges.ps ks) ws)) := fun _ h => nomatch h
theorem sc_d_span : FnScope d_span.N d_span.ps (defScope d_span.st) := ⟨rfl, rfl, rfl, by decide +kernel, rfl, by decide +kernel, by decide +kernel⟩
theorem hb_d_span (kV doc pm : Value) (an : Option Addr) (cdv ct : Value) (us : List Value) (hl : us.length = d_span.ps.length) : bindArgs (PySem.W.fnOf d_span.name d_span.name (defArgs d_span.st) (defBody d_span.st) (defScope d_span.st) .none kV doc pm an cdv ct) ⟨us, []⟩ = pure (d_span.ps.zip us) := match us, hl with | [_, _, _], _ => rfl
theorem hk_d_span : ∀ ks ∈ d_span.kws, ∀ (kV doc pm : Value) (an : Option Addr) (cdv ct : Value) (ws : List Value), ws.length = ks.length → bindArgs (PySem.W.fnOf d_span.name d_span.name (defArgs d_span.st) (defBody d_span.st) (defScope d_span.st) .none kV doc pm an cdv ct) ⟨[], ks.zip ws⟩ = pure (d_span.ps.zip (permL (kwPm d_span.ps ks) ws)) := fun _ h => nomatch h
theorem sc_d_plant : FnScope d_plant.N d_plant.ps (defScope d_plant.st) := ⟨rfl, rfl, rfl, by decide +kernel, rfl, by decide +kernel, by decide +kernel⟩
theorem hb_d_plant (kV doc pm : Value) (an : Option Addr) (cdv ct : Value) (us : List Value) (hl : us.length = d_plant.ps.length) : bindArgs (PySem.W.fnOf d_plant.name d_plant.name (defArgs d_plant.st) (defBody d_plant.st) (defScope d_plant.st) .none kV doc pm an cdv ct) ⟨us, []⟩ = pure (d_plant.ps.zip us) := match us, hl with | [_, _, _], _ => rfl
theorem hk_d_plant : ∀ ks ∈ d_plant.kws, ∀ (kV doc pm : Value) (an : Option Addr) (cdv ct : Value) (ws : List Value), ws.length = ks.length → bindArgs (PySem.W.fnOf d_plant.name d_plant.name (defArgs d_plant.st) (defBody d_plant.st) (defScope d_plant.st) .none kV doc pm an cdv ct) ⟨[], ks.zip ws⟩ = pure (d_plant.ps.zip (permL (kwPm d_plant.ps ks) ws)) := fun _ h => nomatch h
theorem sc_d_odd : FnScope d_odd.N d_odd.ps (defScope d_odd.st) := ⟨rfl, rfl, rfl, by decide +kernel, rfl, by decide +kernel, by decide +kernel⟩
theorem hb_d_odd (kV doc pm : Value) (an : Option Addr) (cdv ct : Value) (us : List Value) (hl : us.length = d_odd.ps.length) : bindArgs (PySem.W.fnOf d_odd.name d_odd.name (defArgs d_odd.st) (defBody d_odd.st) (defScope d_odd.st) .none kV doc pm an cdv ct) ⟨us, []⟩ = pure (d_odd.ps.zip us) := match us, hl with | [_, _], _ => rfl
theorem hk_d_odd : ∀ ks ∈ d_odd.kws, ∀ (kV doc pm : Value) (an : Option Addr) (cdv ct : Value) (ws : List Value), ws.length = ks.length → bindArgs (PySem.W.fnOf d_odd.name d_odd.name (defArgs d_odd.st) (defBody d_odd.st) (defScope d_odd.st) .none kV doc pm an cdv ct) ⟨[], ks.zip ws⟩ = pure (d_odd.ps.zip (permL (kwPm d_odd.ps ks) ws)) := fun _ h => nomatch h
theorem sc_d_bent : FnScope d_bent.N d_bent.ps (defScope d_bent.st) := ⟨rfl, rfl, rfl, by decide +kernel, rfl, by decide +kernel, by decide +kernel⟩
theorem hb_d_bent (kV doc pm : Value) (an : Option Addr) (cdv ct : Value) (us : List Value) (hl : us.length = d_bent.ps.length) : bindArgs (PySem.W.fnOf d_bent.name d_bent.name (defArgs d_bent.st) (defBody d_bent.st) (defScope d_bent.st) .none kV doc pm an cdv ct) ⟨us, []⟩ = pure (d_bent.ps.zip us) := match us, hl with | [_, _], _ => rfl
theorem hk_d_bent : ∀ ks ∈ d_bent.kws, ∀ (kV doc pm : Value) (an : Option Addr) (cdv ct : Value) (ws : List Value), ws.length = ks.length → bindArgs (PySem.W.fnOf d_bent.name d_bent.name (defArgs d_bent.st) (defBody d_bent.st) (defScope d_bent.st) .none kV doc pm an cdv ct) ⟨[], ks.zip ws⟩ = pure (d_bent.ps.zip (permL (kwPm d_bent.ps ks) ws)) := fun _ h => nomatch h
theorem sc_d_integer : FnScope d_integer.N d_integer.ps (defScope d_integer.st) := ⟨rfl, rfl, rfl, by decide +kernel, rfl, by decide +kernel, by decide +kernel⟩
theorem hb_d_integer (kV doc pm : Value) (an : Option Addr) (cdv ct : Value) (us : List Value) (hl : us.length = d_integer.ps.length) : bindArgs (PySem.W.fnOf d_integer.name d_integer.name (defArgs d_integer.st) (defBody d_integer.st) (defScope d_integer.st) .none kV doc pm an cdv ct) ⟨us, []⟩ = pure (d_integer.ps.zip us) := match us, hl with | [_], _ => rfl
theorem hk_d_integer : ∀ ks ∈ d_integer.kws, ∀ (kV doc pm : Value) (an : Option Addr) (cdv ct : Value) (ws : List Value), ws.length = ks.length → bindArgs (PySem.W.fnOf d_integer.name d_integer.name (defArgs d_integer.st) (defBody d_integer.st) (defScope d_integer.st) .none kV doc pm an cdv ct) ⟨[], ks.zip ws⟩ = pure (d_integer.ps.zip (permL (kwPm d_integer.ps ks) ws)) := fun _ h => nomatch h
theorem sc_d_tight : FnScope d_tight.N d_tight.ps (defScope d_tight.st) := ⟨rfl, rfl, rfl, by decide +kernel, rfl, by decide +kernel, by decide +kernel⟩
theorem hb_d_tight (kV doc pm : Value) (an : Option Addr) (cdv ct : Value) (us : List Value) (hl : us.length = d_tight.ps.length) : bindArgs (PySem.W.fnOf d_tight.name d_tight.name (defArgs d_tight.st) (defBody d_tight.st) (defScope d_tight.st) .none kV doc pm an cdv ct) ⟨us, []⟩ = pure (d_tight.ps.zip us) := match us, hl with | [_, _], _ => rfl
theorem hk_d_tight : ∀ ks ∈ d_tight.kws, ∀ (kV doc pm : Value) (an : Option Addr) (cdv ct : Value) (ws : List Value), ws.length = ks.length → bindArgs (PySem.W.fnOf d_tight.name d_tight.name (defArgs d_tight.st) (defBody d_tight.st) (defScope d_tight.st) .none kV doc pm an cdv ct) ⟨[], ks.zip ws⟩ = pure (d_tight.ps.zip (permL (kwPm d_tight.ps ks) ws)) := fun _ h => nomatch h
theorem sc_d_is_overfull : FnScope d_is_overfull.N d_is_overfull.ps (defScope d_is_overfull.st) := ⟨rfl, rfl, rfl, by decide +kernel, rfl, by decide +kernel, by decide +kernel⟩
theorem hb_d_is_overfull (kV doc pm : Value) (an : Option Addr) (cdv ct : Value) (us : List Value) (hl : us.length = d_is_overfull.ps.length) : bindArgs (PySem.W.fnOf d_is_overfull.name d_is_overfull.name (defArgs d_is_overfull.st) (defBody d_is_overfull.st) (defScope d_is_overfull.st) .none kV doc pm an cdv ct) ⟨us, []⟩ = pure (d_is_overfull.ps.zip us) := match us, hl with | [_, _], _ => rfl
theorem hk_d_is_overfull : ∀ ks ∈ d_is_overfull.kws, ∀ (kV doc pm : Value) (an : Option Addr) (cdv ct : Value) (ws : List Value), ws.length = ks.length → bindArgs (PySem.W.fnOf d_is_overfull.name d_is_overfull.name (defArgs d_is_overfull.st) (defBody d_is_overfull.st) (defScope d_is_overfull.st) .none kV doc pm an cdv ct) ⟨[], ks.zip ws⟩ = pure (d_is_overfull.ps.zip (permL (kwPm d_is_overfull.ps ks) ws)) := fun _ h => nomatch h
theorem sc_d_right : FnScope d_right.N d_right.ps (defScope d_right.st) := ⟨rfl, rfl, rfl, by decide +kernel, rfl, by decide +kernel, by decide +kernel⟩
theorem hb_d_right (kV doc pm : Value) (an : Option Addr) (cdv ct : Value) (us : List Value) (hl : us.length = d_right.ps.length) : bindArgs (PySem.W.fnOf d_right.name d_right.name (defArgs d_right.st) (defBody d_right.st) (defScope d_right.st) .none kV doc pm an cdv ct) ⟨us, []⟩ = pure (d_right.ps.zip us) := match us, hl with | [_], _ => rfl
theorem hk_d_right : ∀ ks ∈ d_right.kws, ∀ (kV doc pm : Value) (an : Option Addr) (cdv ct : Value) (ws : List Value), ws.length = ks.length → bindArgs (PySem.W.fnOf d_right.name d_right.name (defArgs d_right.st) (defBody d_right.st) (defScope d_right.st) .none kV doc pm an cdv ct) ⟨[], ks.zip ws⟩ = pure (d_right.ps.zip (permL (kwPm d_right.ps ks) ws)) := fun _ h => nomatch h
theorem sc_dlaw : FnScope dlaw.N dlaw.ps (defScope dlaw.st) := ⟨rfl, rfl, rfl, by decide +kernel, rfl, by decide +kernel, by decide +kernel⟩
theorem hb_dlaw (kV doc pm : Value) (an : Option Addr) (cdv ct : Value) (us : List Value) (hl : us.length = dlaw.ps.length) : bindArgs (PySem.W.fnOf dlaw.name dlaw.name (defArgs dlaw.st) (defBody dlaw.st) (defScope dlaw.st) .none kV doc pm an cdv ct) ⟨us, []⟩ = pure (dlaw.ps.zip us) := match us, hl with | [_], _ => rfl
theorem hk_dlaw : ∀ ks ∈ dlaw.kws, ∀ (kV doc pm : Value) (an : Option Addr) (cdv ct : Value) (ws : List Value), ws.length = ks.length → bindArgs (PySem.W.fnOf dlaw.name dlaw.name (defArgs dlaw.st) (defBody dlaw.st) (defScope dlaw.st) .none kV doc pm an cdv ct) ⟨[], ks.zip ws⟩ = pure (dlaw.ps.zip (permL (kwPm dlaw.ps ks) ws)) := fun _ h => nomatch h
theorem all_mk {l : PySem.W.OpenLaw} {w : World} {K : PySem.W.Frag} {h : Heap} {mg : Str → Option Value} {fa f0 f1 f2 f3 f4 f5 f6 f7 f8 f9 f10 f11 f12 f13 f14 f15 f16 f17 f18 f19 f20 : Addr} (X : K.In h) (G : h.Ns mainGlobals mg) (hfa : mg "law" = some (.ref fa)) {od0 an0 od1 an1 od2 an2 od3 an3 od4 an4 od5 an5 od6 an6 od7 an7 od8 an8 od9 an9 od10 an10 od11 an11 od12 an12 od13 an13 od14 an14 od15 an15 od16 an16 od17 an17 od18 an18 od19 an19 od20 an20 : Option Addr} {sl0 sl1 sl2 sl3 sl4 sl5 sl6 sl7 sl8 sl9 sl10 sl11 sl12 sl13 sl14 sl15 sl16 sl17 sl18 sl19 sl20 : Array (Option Value)} {oc0 kV0 dc0 pm0 cd0 ct0 oc1 kV1 dc1 pm1 cd1 ct1 oc2 kV2 dc2 pm2 cd2 ct2 oc3 kV3 dc3 pm3 cd3 ct3 oc4 kV4 dc4 pm4 cd4 ct4 oc5 kV5 dc5 pm5 cd5 ct5 oc6 kV6 dc6 pm6 cd6 ct6 oc7 kV7 dc7 pm7 cd7 ct7 oc8 kV8 dc8 pm8 cd8 ct8 oc9 kV9 dc9 pm9 cd9 ct9 oc10 kV10 dc10 pm10 cd10 ct10 oc11 kV11 dc11 pm11 cd11 ct11 oc12 kV12 dc12 pm12 cd12 ct12 oc13 kV13 dc13 pm13 cd13 ct13 oc14 kV14 dc14 pm14 cd14 ct14 oc15 kV15 dc15 pm15 cd15 ct15 oc16 kV16 dc16 pm16 cd16 ct16 oc17 kV17 dc17 pm17 cd17 ct17 oc18 kV18 dc18 pm18 cd18 ct18 oc19 kV19 dc19 pm19 cd19 ct19 oc20 kV20 dc20 pm20 cd20 ct20 : Value}
    (a0 : PySem.W.nsIn K mainGlobals dis_number.name = some (some (.ref f0))) (l0 : K.lookup f0 = some ⟨oc0, od0, .func (PySem.W.fnOf dis_number.name dis_number.name (defArgs dis_number.st) (defBody dis_number.st) (defScope dis_number.st) .none kV0 dc0 pm0 an0 cd0 ct0), sl0⟩) (c0 : PySem.W.codeIn K cd0 dis_number.name = true) (k0 : PySem.W.keepIn K (.ref f0) = true)
    (a1 : PySem.W.nsIn K mainGlobals dis_pair.name = some (some (.ref f1))) (l1 : K.lookup f1 = some ⟨oc1, od1, .func (PySem.W.fnOf dis_pair.name dis_pair.name (defArgs dis_pair.st) (defBody dis_pair.st) (defScope dis_pair.st) .none kV1 dc1 pm1 an1 cd1 ct1), sl1⟩) (c1 : PySem.W.codeIn K cd1 dis_pair.name = true) (k1 : PySem.W.keepIn K (.ref f1) = true)
    (a2 : PySem.W.nsIn K mainGlobals dis_interval.name = some (some (.ref f2))) (l2 : K.lookup f2 = some ⟨oc2, od2, .func (PySem.W.fnOf dis_interval.name dis_interval.name (defArgs dis_interval.st) (defBody dis_interval.st) (defScope dis_interval.st) .none kV2 dc2 pm2 an2 cd2 ct2), sl2⟩) (c2 : PySem.W.codeIn K cd2 dis_interval.name = true) (k2 : PySem.W.keepIn K (.ref f2) = true)
    (a3 : PySem.W.nsIn K mainGlobals dshortage.name = some (some (.ref f3))) (l3 : K.lookup f3 = some ⟨oc3, od3, .func (PySem.W.fnOf dshortage.name dshortage.name (defArgs dshortage.st) (defBody dshortage.st) (defScope dshortage.st) .none kV3 dc3 pm3 an3 cd3 ct3), sl3⟩) (c3 : PySem.W.codeIn K cd3 dshortage.name = true) (k3 : PySem.W.keepIn K (.ref f3) = true)
    (a4 : PySem.W.nsIn K mainGlobals dshows_overfull.name = some (some (.ref f4))) (l4 : K.lookup f4 = some ⟨oc4, od4, .func (PySem.W.fnOf dshows_overfull.name dshows_overfull.name (defArgs dshows_overfull.st) (defBody dshows_overfull.st) (defScope dshows_overfull.st) .none kV4 dc4 pm4 an4 cd4 ct4), sl4⟩) (c4 : PySem.W.codeIn K cd4 dshows_overfull.name = true) (k4 : PySem.W.keepIn K (.ref f4) = true)
    (a5 : PySem.W.nsIn K mainGlobals d_box.name = some (some (.ref f5))) (l5 : K.lookup f5 = some ⟨oc5, od5, .func (PySem.W.fnOf d_box.name d_box.name (defArgs d_box.st) (defBody d_box.st) (defScope d_box.st) .none kV5 dc5 pm5 an5 cd5 ct5), sl5⟩) (c5 : PySem.W.codeIn K cd5 d_box.name = true) (k5 : PySem.W.keepIn K (.ref f5) = true)
    (a6 : PySem.W.nsIn K mainGlobals d_take.name = some (some (.ref f6))) (l6 : K.lookup f6 = some ⟨oc6, od6, .func (PySem.W.fnOf d_take.name d_take.name (defArgs d_take.st) (defBody d_take.st) (defScope d_take.st) .none kV6 dc6 pm6 an6 cd6 ct6), sl6⟩) (c6 : PySem.W.codeIn K cd6 d_take.name = true) (k6 : PySem.W.keepIn K (.ref f6) = true)
    (a7 : PySem.W.nsIn K mainGlobals d_pick.name = some (some (.ref f7))) (l7 : K.lookup f7 = some ⟨oc7, od7, .func (PySem.W.fnOf d_pick.name d_pick.name (defArgs d_pick.st) (defBody d_pick.st) (defScope d_pick.st) .none kV7 dc7 pm7 an7 cd7 ct7), sl7⟩) (c7 : PySem.W.codeIn K cd7 d_pick.name = true) (k7 : PySem.W.keepIn K (.ref f7) = true)
    (a8 : PySem.W.nsIn K mainGlobals d_same.name = some (some (.ref f8))) (l8 : K.lookup f8 = some ⟨oc8, od8, .func (PySem.W.fnOf d_same.name d_same.name (defArgs d_same.st) (defBody d_same.st) (defScope d_same.st) .none kV8 dc8 pm8 an8 cd8 ct8), sl8⟩) (c8 : PySem.W.codeIn K cd8 d_same.name = true) (k8 : PySem.W.keepIn K (.ref f8) = true)
    (a9 : PySem.W.nsIn K mainGlobals d_lists.name = some (some (.ref f9))) (l9 : K.lookup f9 = some ⟨oc9, od9, .func (PySem.W.fnOf d_lists.name d_lists.name (defArgs d_lists.st) (defBody d_lists.st) (defScope d_lists.st) .none kV9 dc9 pm9 an9 cd9 ct9), sl9⟩) (c9 : PySem.W.codeIn K cd9 d_lists.name = true) (k9 : PySem.W.keepIn K (.ref f9) = true)
    (a10 : PySem.W.nsIn K mainGlobals d_shuffled.name = some (some (.ref f10))) (l10 : K.lookup f10 = some ⟨oc10, od10, .func (PySem.W.fnOf d_shuffled.name d_shuffled.name (defArgs d_shuffled.st) (defBody d_shuffled.st) (defScope d_shuffled.st) .none kV10 dc10 pm10 an10 cd10 ct10), sl10⟩) (c10 : PySem.W.codeIn K cd10 d_shuffled.name = true) (k10 : PySem.W.keepIn K (.ref f10) = true)
    (a11 : PySem.W.nsIn K mainGlobals d_gauges.name = some (some (.ref f11))) (l11 : K.lookup f11 = some ⟨oc11, od11, .func (PySem.W.fnOf d_gauges.name d_gauges.name (defArgs d_gauges.st) (defBody d_gauges.st) (defScope d_gauges.st) .none kV11 dc11 pm11 an11 cd11 ct11), sl11⟩) (c11 : PySem.W.codeIn K cd11 d_gauges.name = true) (k11 : PySem.W.keepIn K (.ref f11) = true)
    (a12 : PySem.W.nsIn K mainGlobals d_span.name = some (some (.ref f12))) (l12 : K.lookup f12 = some ⟨oc12, od12, .func (PySem.W.fnOf d_span.name d_span.name (defArgs d_span.st) (defBody d_span.st) (defScope d_span.st) .none kV12 dc12 pm12 an12 cd12 ct12), sl12⟩) (c12 : PySem.W.codeIn K cd12 d_span.name = true) (k12 : PySem.W.keepIn K (.ref f12) = true)
    (a13 : PySem.W.nsIn K mainGlobals d_plant.name = some (some (.ref f13))) (l13 : K.lookup f13 = some ⟨oc13, od13, .func (PySem.W.fnOf d_plant.name d_plant.name (defArgs d_plant.st) (defBody d_plant.st) (defScope d_plant.st) .none kV13 dc13 pm13 an13 cd13 ct13), sl13⟩) (c13 : PySem.W.codeIn K cd13 d_plant.name = true) (k13 : PySem.W.keepIn K (.ref f13) = true)
    (a14 : PySem.W.nsIn K mainGlobals d_odd.name = some (some (.ref f14))) (l14 : K.lookup f14 = some ⟨oc14, od14, .func (PySem.W.fnOf d_odd.name d_odd.name (defArgs d_odd.st) (defBody d_odd.st) (defScope d_odd.st) .none kV14 dc14 pm14 an14 cd14 ct14), sl14⟩) (c14 : PySem.W.codeIn K cd14 d_odd.name = true) (k14 : PySem.W.keepIn K (.ref f14) = true)
    (a15 : PySem.W.nsIn K mainGlobals d_bent.name = some (some (.ref f15))) (l15 : K.lookup f15 = some ⟨oc15, od15, .func (PySem.W.fnOf d_bent.name d_bent.name (defArgs d_bent.st) (defBody d_bent.st) (defScope d_bent.st) .none kV15 dc15 pm15 an15 cd15 ct15), sl15⟩) (c15 : PySem.W.codeIn K cd15 d_bent.name = true) (k15 : PySem.W.keepIn K (.ref f15) = true)
    (a16 : PySem.W.nsIn K mainGlobals d_integer.name = some (some (.ref f16))) (l16 : K.lookup f16 = some ⟨oc16, od16, .func (PySem.W.fnOf d_integer.name d_integer.name (defArgs d_integer.st) (defBody d_integer.st) (defScope d_integer.st) .none kV16 dc16 pm16 an16 cd16 ct16), sl16⟩) (c16 : PySem.W.codeIn K cd16 d_integer.name = true) (k16 : PySem.W.keepIn K (.ref f16) = true)
    (a17 : PySem.W.nsIn K mainGlobals d_tight.name = some (some (.ref f17))) (l17 : K.lookup f17 = some ⟨oc17, od17, .func (PySem.W.fnOf d_tight.name d_tight.name (defArgs d_tight.st) (defBody d_tight.st) (defScope d_tight.st) .none kV17 dc17 pm17 an17 cd17 ct17), sl17⟩) (c17 : PySem.W.codeIn K cd17 d_tight.name = true) (k17 : PySem.W.keepIn K (.ref f17) = true)
    (a18 : PySem.W.nsIn K mainGlobals d_is_overfull.name = some (some (.ref f18))) (l18 : K.lookup f18 = some ⟨oc18, od18, .func (PySem.W.fnOf d_is_overfull.name d_is_overfull.name (defArgs d_is_overfull.st) (defBody d_is_overfull.st) (defScope d_is_overfull.st) .none kV18 dc18 pm18 an18 cd18 ct18), sl18⟩) (c18 : PySem.W.codeIn K cd18 d_is_overfull.name = true) (k18 : PySem.W.keepIn K (.ref f18) = true)
    (a19 : PySem.W.nsIn K mainGlobals d_right.name = some (some (.ref f19))) (l19 : K.lookup f19 = some ⟨oc19, od19, .func (PySem.W.fnOf d_right.name d_right.name (defArgs d_right.st) (defBody d_right.st) (defScope d_right.st) .none kV19 dc19 pm19 an19 cd19 ct19), sl19⟩) (c19 : PySem.W.codeIn K cd19 d_right.name = true) (k19 : PySem.W.keepIn K (.ref f19) = true)
    (a20 : PySem.W.nsIn K mainGlobals dlaw.name = some (some (.ref f20))) (l20 : K.lookup f20 = some ⟨oc20, od20, .func (PySem.W.fnOf dlaw.name dlaw.name (defArgs dlaw.st) (defBody dlaw.st) (defScope dlaw.st) .none kV20 dc20 pm20 an20 cd20 ct20), sl20⟩) (c20 : PySem.W.codeIn K cd20 dlaw.name = true) (k20 : PySem.W.keepIn K (.ref f20) = true)
    (z0 : PySem.W.nsIn K mainGlobals "abs" = some none) (z1 : PySem.W.nsIn K mainGlobals "all" = some none) (z2 : PySem.W.nsIn K mainGlobals "bool" = some none) (z3 : PySem.W.nsIn K mainGlobals "int" = some none) (z4 : PySem.W.nsIn K mainGlobals "isinstance" = some none) (z5 : PySem.W.nsIn K mainGlobals "len" = some none) (z6 : PySem.W.nsIn K mainGlobals "list" = some none) (z7 : PySem.W.nsIn K mainGlobals "min" = some none) (z8 : PySem.W.nsIn K mainGlobals "range" = some none) (z9 : PySem.W.nsIn K mainGlobals "repr" = some none) (z10 : PySem.W.nsIn K mainGlobals "set" = some none) (z11 : PySem.W.nsIn K mainGlobals "sorted" = some none) (z12 : PySem.W.nsIn K mainGlobals "str" = some none) (z13 : PySem.W.nsIn K mainGlobals "tuple" = some none) (z14 : PySem.W.nsIn K mainGlobals "zip" = some none) :
    ∃ fd : FuncData, (∀ (s : Shared) (v : Value), BindsTo s fd ⟨[v], []⟩ [("_law_script", v)]) ∧ ∀ base : Heap, K.In base → base.Ns mainGlobals mg → FnG l.prog w K mg base 31 fa fd ["_law_script"] (spM K dLaw) := by
  have D0 := df_mk (d := dis_number) X G a0 l0 c0 k0 hb_dis_number hk_dis_number sc_dis_number (by decide)
  have D1 := df_mk (d := dis_pair) X G a1 l1 c1 k1 hb_dis_pair hk_dis_pair sc_dis_pair (by decide)
  have D2 := df_mk (d := dis_interval) X G a2 l2 c2 k2 hb_dis_interval hk_dis_interval sc_dis_interval (by decide)
  have D3 := df_mk (d := dshortage) X G a3 l3 c3 k3 hb_dshortage hk_dshortage sc_dshortage (by decide)
  have D4 := df_mk (d := dshows_overfull) X G a4 l4 c4 k4 hb_dshows_overfull hk_dshows_overfull sc_dshows_overfull (by decide)
  have D5 := df_mk (d := d_box) X G a5 l5 c5 k5 hb_d_box hk_d_box sc_d_box (by decide)
  have D6 := df_mk (d := d_take) X G a6 l6 c6 k6 hb_d_take hk_d_take sc_d_take (by decide)
  have D7 := df_mk (d := d_pick) X G a7 l7 c7 k7 hb_d_pick hk_d_pick sc_d_pick (by decide)
  have D8 := df_mk (d := d_same) X G a8 l8 c8 k8 hb_d_same hk_d_same sc_d_same (by decide)
  have D9 := df_mk (d := d_lists) X G a9 l9 c9 k9 hb_d_lists hk_d_lists sc_d_lists (by decide)
  have D10 := df_mk (d := d_shuffled) X G a10 l10 c10 k10 hb_d_shuffled hk_d_shuffled sc_d_shuffled (by decide)
  have D11 := df_mk (d := d_gauges) X G a11 l11 c11 k11 hb_d_gauges hk_d_gauges sc_d_gauges (by decide)
  have D12 := df_mk (d := d_span) X G a12 l12 c12 k12 hb_d_span hk_d_span sc_d_span (by decide)
  have D13 := df_mk (d := d_plant) X G a13 l13 c13 k13 hb_d_plant hk_d_plant sc_d_plant (by decide)
  have D14 := df_mk (d := d_odd) X G a14 l14 c14 k14 hb_d_odd hk_d_odd sc_d_odd (by decide)
  have D15 := df_mk (d := d_bent) X G a15 l15 c15 k15 hb_d_bent hk_d_bent sc_d_bent (by decide)
  have D16 := df_mk (d := d_integer) X G a16 l16 c16 k16 hb_d_integer hk_d_integer sc_d_integer (by decide)
  have D17 := df_mk (d := d_tight) X G a17 l17 c17 k17 hb_d_tight hk_d_tight sc_d_tight (by decide)
  have D18 := df_mk (d := d_is_overfull) X G a18 l18 c18 k18 hb_d_is_overfull hk_d_is_overfull sc_d_is_overfull (by decide)
  have D19 := df_mk (d := d_right) X G a19 l19 c19 k19 hb_d_right hk_d_right sc_d_right (by decide)
  have D20 := df_mk (d := dlaw) X G a20 l20 c20 k20 hb_dlaw hk_dlaw sc_dlaw (by decide)
  have hd : ∀ d ∈ defs, DfOk K mg d := by
    unfold defs
    refine List.forall_mem_cons.mpr ⟨D0, ?_⟩
    refine List.forall_mem_cons.mpr ⟨D1, ?_⟩
    refine List.forall_mem_cons.mpr ⟨D2, ?_⟩
    refine List.forall_mem_cons.mpr ⟨D3, ?_⟩
    refine List.forall_mem_cons.mpr ⟨D4, ?_⟩
    refine List.forall_mem_cons.mpr ⟨D5, ?_⟩
    refine List.forall_mem_cons.mpr ⟨D6, ?_⟩
    refine List.forall_mem_cons.mpr ⟨D7, ?_⟩
    refine List.forall_mem_cons.mpr ⟨D8, ?_⟩
    refine List.forall_mem_cons.mpr ⟨D9, ?_⟩
    refine List.forall_mem_cons.mpr ⟨D10, ?_⟩
    refine List.forall_mem_cons.mpr ⟨D11, ?_⟩
    refine List.forall_mem_cons.mpr ⟨D12, ?_⟩
    refine List.forall_mem_cons.mpr ⟨D13, ?_⟩
    refine List.forall_mem_cons.mpr ⟨D14, ?_⟩
    refine List.forall_mem_cons.mpr ⟨D15, ?_⟩
    refine List.forall_mem_cons.mpr ⟨D16, ?_⟩
    refine List.forall_mem_cons.mpr ⟨D17, ?_⟩
    refine List.forall_mem_cons.mpr ⟨D18, ?_⟩
    refine List.forall_mem_cons.mpr ⟨D19, ?_⟩
    refine List.forall_mem_cons.mpr ⟨D20, ?_⟩
    exact fun _ h => nomatch h
  have hz : ∀ x ∈ blts, mg x = none := by
    unfold blts
    refine List.forall_mem_cons.mpr ⟨PySem.W.mg_none_of X G z0, ?_⟩
    refine List.forall_mem_cons.mpr ⟨PySem.W.mg_none_of X G z1, ?_⟩
    refine List.forall_mem_cons.mpr ⟨PySem.W.mg_none_of X G z2, ?_⟩
    refine List.forall_mem_cons.mpr ⟨PySem.W.mg_none_of X G z3, ?_⟩
    refine List.forall_mem_cons.mpr ⟨PySem.W.mg_none_of X G z4, ?_⟩
    refine List.forall_mem_cons.mpr ⟨PySem.W.mg_none_of X G z5, ?_⟩
    refine List.forall_mem_cons.mpr ⟨PySem.W.mg_none_of X G z6, ?_⟩
    refine List.forall_mem_cons.mpr ⟨PySem.W.mg_none_of X G z7, ?_⟩
    refine List.forall_mem_cons.mpr ⟨PySem.W.mg_none_of X G z8, ?_⟩
    refine List.forall_mem_cons.mpr ⟨PySem.W.mg_none_of X G z9, ?_⟩
    refine List.forall_mem_cons.mpr ⟨PySem.W.mg_none_of X G z10, ?_⟩
    refine List.forall_mem_cons.mpr ⟨PySem.W.mg_none_of X G z11, ?_⟩
    refine List.forall_mem_cons.mpr ⟨PySem.W.mg_none_of X G z12, ?_⟩
    refine List.forall_mem_cons.mpr ⟨PySem.W.mg_none_of X G z13, ?_⟩
    refine List.forall_mem_cons.mpr ⟨PySem.W.mg_none_of X G z14, ?_⟩
    exact fun _ h => nomatch h
  have hb : ∀ x, bl x = true → mg x = none := fun x h => hz x (by simpa [bl, List.contains_iff_mem] using h)
  have e := hfa.symm.trans (PySem.W.mg_of X G a20)
  cases e
  have F := fun_mk (st := dlaw.st) l20 c20 k20
  exact ⟨_, fun s v => .of_eq rfl, fun base _ _ => envD_ok (lvl := 40) hd hb 30 dlaw (by simp [defs]) _ _ (PySem.W.mg_of X G a20) F⟩
theorem law_true (ns : List Int) (h : ns.length ≤ 63) : ∃ outs, dLaw [.dat (scr ns)] = some (.dat (.bool true), outs) := law_all ns h
end Lk06
open PySem PySem.W PyProof.Rows
set_option maxHeartbeats 0 in
theorem PySem.Challenge.cw_spindlefit_k06_overfull_intervals_shown_holds : PySem.Challenge.rw_spindlefit_k06_overfull_intervals_shown.Holds := by
  w_on; o_law; k_head; (case hw => w_witness2)
  k_fill
  refine Rf.walk_ofG (l := PySem.Challenge.rw_spindlefit_k06_overfull_intervals_shown) (n := 63) (k := 31) (x := "_law_script") (D := Lk06.dLaw) rfl (by decide) rfl ⟨rfl, by decide, by decide⟩ (fun w h Y => PySem.W.kIn_of Y) ?F Lk06.law_true
  case F =>
    intro w mg fa h KX G hmg
    refine' Lk06.all_mk KX G hmg ?a0 ?l0 ?c0 ?k0 ?a1 ?l1 ?c1 ?k1 ?a2 ?l2 ?c2 ?k2 ?a3 ?l3 ?c3 ?k3 ?a4 ?l4 ?c4 ?k4 ?a5 ?l5 ?c5 ?k5 ?a6 ?l6 ?c6 ?k6 ?a7 ?l7 ?c7 ?k7 ?a8 ?l8 ?c8 ?k8 ?a9 ?l9 ?c9 ?k9 ?a10 ?l10 ?c10 ?k10 ?a11 ?l11 ?c11 ?k11 ?a12 ?l12 ?c12 ?k12 ?a13 ?l13 ?c13 ?k13 ?a14 ?l14 ?c14 ?k14 ?a15 ?l15 ?c15 ?k15 ?a16 ?l16 ?c16 ?k16 ?a17 ?l17 ?c17 ?k17 ?a18 ?l18 ?c18 ?k18 ?a19 ?l19 ?c19 ?k19 ?a20 ?l20 ?c20 ?k20 ?z0 ?z1 ?z2 ?z3 ?z4 ?z5 ?z6 ?z7 ?z8 ?z9 ?z10 ?z11 ?z12 ?z13 ?z14
    (case a0 => k_is); (case l0 => k_is); (case c0 => k_is); (case k0 => k_is)
    (case a1 => k_is); (case l1 => k_is); (case c1 => k_is); (case k1 => k_is)
    (case a2 => k_is); (case l2 => k_is); (case c2 => k_is); (case k2 => k_is)
    (case a3 => k_is); (case l3 => k_is); (case c3 => k_is); (case k3 => k_is)
    (case a4 => k_is); (case l4 => k_is); (case c4 => k_is); (case k4 => k_is)
    (case a5 => k_is); (case l5 => k_is); (case c5 => k_is); (case k5 => k_is)
    (case a6 => k_is); (case l6 => k_is); (case c6 => k_is); (case k6 => k_is)
    (case a7 => k_is); (case l7 => k_is); (case c7 => k_is); (case k7 => k_is)
    (case a8 => k_is); (case l8 => k_is); (case c8 => k_is); (case k8 => k_is)
    (case a9 => k_is); (case l9 => k_is); (case c9 => k_is); (case k9 => k_is)
    (case a10 => k_is); (case l10 => k_is); (case c10 => k_is); (case k10 => k_is)
    (case a11 => k_is); (case l11 => k_is); (case c11 => k_is); (case k11 => k_is)
    (case a12 => k_is); (case l12 => k_is); (case c12 => k_is); (case k12 => k_is)
    (case a13 => k_is); (case l13 => k_is); (case c13 => k_is); (case k13 => k_is)
    (case a14 => k_is); (case l14 => k_is); (case c14 => k_is); (case k14 => k_is)
    (case a15 => k_is); (case l15 => k_is); (case c15 => k_is); (case k15 => k_is)
    (case a16 => k_is); (case l16 => k_is); (case c16 => k_is); (case k16 => k_is)
    (case a17 => k_is); (case l17 => k_is); (case c17 => k_is); (case k17 => k_is)
    (case a18 => k_is); (case l18 => k_is); (case c18 => k_is); (case k18 => k_is)
    (case a19 => k_is); (case l19 => k_is); (case c19 => k_is); (case k19 => k_is)
    (case a20 => k_is); (case l20 => k_is); (case c20 => k_is); (case k20 => k_is)
    (case z0 => k_is); (case z1 => k_is); (case z2 => k_is); (case z3 => k_is); (case z4 => k_is); (case z5 => k_is); (case z6 => k_is); (case z7 => k_is); (case z8 => k_is); (case z9 => k_is); (case z10 => k_is); (case z11 => k_is); (case z12 => k_is); (case z13 => k_is); (case z14 => k_is)

