import PyProof.Rows.All
import Wide.All
import OpenK.AllK
import Wide.FinOn
import PySem.Challenge.RW_spindlefit_k01_shops_recognized
import HandS.List
import HandS.Comp
import HandS.Iter
import HandS.Words
import HandS.TupAny
import HandS.Zip
import HandS.Style
import HandS.IsInst
import HandS.Deep
import HandS.Conv
import HandS.SortInts
import KE.DataMinMax
import KE.DataFind
import PyProof.ReprRoads
import PyProof.SeqIndex
import HandS.Ends
import HandS.More
import HandS.Strs
import HandS.SetFor
import HandS.TupMul
set_option Elab.async false
set_option linter.all false
set_option maxRecDepth 100000
set_option maxHeartbeats 4000000
/-! Rg0: what the rules ask of a text's form. -/
namespace Rf
open PySem L2

def isStar : Expr → Bool
  | .Starred _ _ => true
  | _ => false
def isSlice : Expr → Bool
  | .Slice _ _ _ _ => true
  | _ => false
def isSetD : Expr → Bool
  | .Set _ _ _ => true
  | _ => false
def isCompr : Expr → Bool
  | .ListComp _ _ _ _ => true
  | .SetComp _ _ _ _ => true
  | .DictComp _ _ _ _ _ => true
  | _ => false
def isCall0 : Expr → Bool
  | .Call (.Name _ _) [] [] _ => true
  | _ => false
def noStars (es : List Expr) : Bool := es.all fun e => !isStar e
section
variable {e o : Expr} {es : List Expr} {env : Env}
theorem star_cons (h : isStar e = false) : starEach (e :: es) env = (false, eval e env) :: starEach es env := by
  cases e <;> first | rfl | cases h
theorem back_plain {pos : Pos} : ∀ {es : List Expr}, noStars es = true → (backTo pos (starEach es env)).any (·.1) = false
  | [], _ => rfl
  | e :: es, h => by
    simp only [noStars, List.all_cons, Bool.and_eq_true, Bool.not_eq_true'] at h
    rw [star_cons h.1]
    have := back_plain (pos := pos) (es := es) h.2
    simp only [backTo, List.map_cons, List.any_cons, Bool.false_or] at this ⊢
    first | exact this | simpa using this
theorem back_all {pos : Pos} : ∀ {es : List Expr}, noStars es = true → (backTo pos (starEach es env)).all (fun x => !x.1) = true
  | [], _ => rfl
  | e :: es, h => by
    simp only [noStars, List.all_cons, Bool.and_eq_true, Bool.not_eq_true'] at h
    rw [star_cons h.1]
    have := back_all (pos := pos) (es := es) h.2
    simp only [backTo, List.map_cons, List.all_cons, Bool.not_false, Bool.true_and] at this ⊢
    first | exact this | simpa using this
theorem plainIx_of (h : isSlice e = false) : PlainIx e := by
  intro a b
  cases e <;> first | rfl | cases h
theorem noMark_of {op : CmpOp} (h : isSetD e = false) : behindInMarks op e = false := by
  cases e <;> first | rfl | cases h
theorem lastMark_of {op op' : CmpOp} {b : Expr} (h : isSetD e = false) : lastMarks [op, op'] [b, e] = false := noMark_of h
theorem swap_of {t : Option Expr} {n : Nat} (h : isCompr e = false) : swapsWith e t n env = pure false := by
  cases e <;> first | rfl | cases h
theorem swapSole_of {t : Expr} {n : Nat} (h : isCompr e = false) : swapsWithSole [t] e n env = pure false := swap_of h
theorem folded_of (h : isSetD e = false) (x : Value) : foldedSetIterable e env x = pure x := by
  cases e <;> first | rfl | cases h
theorem base_of {name : Str} {w : Sem Value} (h : isCall0 o = false) : attributeBase o name env w = w := by
  unfold attributeBase
  split
  · cases h
  · rfl
end
theorem relabel_eq (scope : Scope) (env : Env) : relabel scope env = { scope with names := scope.names.map fun (n, k) => if k == .free && env.scope.kind == .function && env.scope.names.lookup n == some .cell then (n, .cell) else (n, k) } := rfl
end Rf

/-! Rf: pure meanings of defs over data, and that the machine keeps to them. -/
namespace Rf
open PySem L2

/-! ### meanings -/
/-- what an object that may still change holds -/
inductive Cell where
  | lst (ds : List PyData)
def Cell.data : Cell → PyData
  | .lst ds => .list ds
/-- what an expression gives: data; a new object that nobody else holds; a look at the object of slot i -/
inductive SV where
  | dat (d : PyData) | fre (c : Cell) | bor (i : Nat)
/-- what a slot holds: data; an object of its own -/
inductive S0 where
  | dat (d : PyData) | own (c : Cell)
abbrev Fm := List (Option S0)
abbrev ME := Fm → Option (SV × Fm)
abbrev MT := Fm → Option (Bool × Fm)
abbrev MA := Fm → Option (List SV × Fm)
inductive Fl where
  | nx | rt (v : SV) | bk | ct
abbrev MS := Fm → Option (Fl × Fm)

def peek : SV → Fm → Option PyData
  | .dat d, _ => some d
  | .fre c, _ => some c.data
  | .bor i, fm => match fm[i]? with
    | some (some (.dat d)) => some d
    | some (some (.own c)) => some c.data
    | _ => none
/-- from now on data -/
def frz : SV → Fm → Option (PyData × Fm)
  | .dat d, fm => some (d, fm)
  | .fre c, fm => some (c.data, fm)
  | .bor i, fm => match fm[i]? with
    | some (some (.dat d)) => some (d, fm)
    | some (some (.own c)) => some (c.data, fm.set i (some (.dat c.data)))
    | _ => none
def frzAll : List SV → Fm → Option (List PyData × Fm)
  | [], fm => some ([], fm)
  | v :: vs, fm => match frz v fm with
    | some (d, fm1) => match frzAll vs fm1 with
      | some (ds, fm2) => some (d :: ds, fm2)
      | none => none
    | none => none

/-! ### heaps and data -/
/-- a tuple that is known to be plain -/
def SqP (K : PySem.W.Frag) (F : Hp) (a : Addr) (xs : List V) : Prop := SqT K F a xs ∧ ((∃ o, F a = some (.frz o (.tup xs)) ∧ o.dict = none) ∨ ∃ o, K.lookup a = some o ∧ o.cls = .type "tuple" ∧ o.dict = none)
mutual
inductive Dq (K : PySem.W.Frag) (F : Hp) : V → PyData → Prop
  | non : Dq K F .non .none
  | bl (b : Bool) : Dq K F (.bl b) (.bool b)
  | int (i : Int) : Dq K F (.int i) (.int i)
  | str (x : Str) : Dq K F (.str x) (.str x)
  | lst {a : Addr} {xs : List V} {ds : List PyData} (h : SqL K F a xs) (r : DqAll K F xs ds) : Dq K F (.ref a) (.list ds)
  | tup {a : Addr} {xs : List V} {ds : List PyData} (h : SqP K F a xs) (r : DqAll K F xs ds) : Dq K F (.ref a) (.tuple ds)
inductive DqAll (K : PySem.W.Frag) (F : Hp) : List V → List PyData → Prop
  | nil : DqAll K F [] []
  | cons {v : V} {vs : List V} {d : PyData} {ds : List PyData} (h : Dq K F v d) (r : DqAll K F vs ds) : DqAll K F (v :: vs) (d :: ds)
end
mutual
theorem Dq.dp {K : PySem.W.Frag} {F : Hp} : ∀ {v : V} {d : PyData}, Dq K F v d → Dp K F v d
  | _, _, .non => .non
  | _, _, .bl b => .bl b
  | _, _, .int i => .int i
  | _, _, .str x => .str x
  | _, _, .lst h r => .lst h r.dp
  | _, _, .tup h r => .tup h.1 r.dp
theorem DqAll.dp {K : PySem.W.Frag} {F : Hp} : ∀ {vs : List V} {ds : List PyData}, DqAll K F vs ds → DpAll K F vs ds
  | _, _, .nil => .nil
  | _, _, .cons h r => .cons h.dp r.dp
end
section
variable {K : PySem.W.Frag} {F F' G H H' : Hp}
theorem Same.upd' {p : Addr} {o : HO} (h : F p = none) : Same F (upd F p o) := fun b u e => by
  rw [upd_ne (ne_of_none e h)]; exact e
theorem sqT_mono {a : Addr} {xs : List V} (e : Same F F') (h : SqT K F a xs) : SqT K F' a xs := by
  rcases h with (h | ⟨o, h⟩) | h
  · exact .inl (.inl (e _ _ h))
  · exact .inl (.inr ⟨o, e _ _ h⟩)
  · exact .inr h
theorem sqP_mono {a : Addr} {xs : List V} (e : Same F F') (h : SqP K F a xs) : SqP K F' a xs := ⟨sqT_mono e h.1, h.2.elim (fun ⟨o, h1, h2⟩ => .inl ⟨o, e _ _ h1, h2⟩) .inr⟩
mutual
theorem dp_mono (e : Same F F') : ∀ {v : V} {d : PyData}, Dq K F v d → Dq K F' v d
  | _, _, .non => .non
  | _, _, .bl b => .bl b
  | _, _, .int i => .int i
  | _, _, .str x => .str x
  | _, _, .lst h r => .lst (e.seq h) (dpAll_mono e r)
  | _, _, .tup h r => .tup (sqP_mono e h) (dpAll_mono e r)
theorem dpAll_mono (e : Same F F') : ∀ {vs : List V} {ds : List PyData}, DqAll K F vs ds → DqAll K F' vs ds
  | _, _, .nil => .nil
  | _, _, .cons h r => .cons (dp_mono e h) (dpAll_mono e r)
end
theorem dpAll_len : ∀ {vs : List V} {ds : List PyData}, DqAll K F vs ds → vs.length = ds.length
  | _, _, .nil => rfl
  | _, _, .cons _ r => by simp [dpAll_len r]
theorem dpAll_get : ∀ {vs : List V} {ds : List PyData} {i : Nat} {d : PyData}, DqAll K F vs ds → ds[i]? = some d → ∃ v, vs[i]? = some v ∧ Dq K F v d
  | _, _, _, _, .nil, e => by simp at e
  | _, _, 0, _, .cons h _, e => by simp at e; subst e; exact ⟨_, rfl, h⟩
  | _, _, i + 1, d, .cons _ r, e => by
    obtain ⟨v, h1, h2⟩ := dpAll_get (i := i) (d := d) r (by simpa using e)
    exact ⟨v, by simpa using h1, h2⟩
theorem dpAll_app : ∀ {vs us : List V} {ds es : List PyData}, DqAll K F vs ds → DqAll K F us es → DqAll K F (vs ++ us) (ds ++ es)
  | _, _, _, _, .nil, s => s
  | _, _, _, _, .cons h r, s => .cons h (dpAll_app r s)
theorem dpAll_take : ∀ {vs : List V} {ds : List PyData} (n : Nat), DqAll K F vs ds → DqAll K F (vs.take n) (ds.take n)
  | _, _, 0, _ => .nil
  | _, _, _ + 1, .nil => .nil
  | _, _, n + 1, .cons h r => .cons h (dpAll_take n r)
theorem dpAll_drop : ∀ {vs : List V} {ds : List PyData} (n : Nat), DqAll K F vs ds → DqAll K F (vs.drop n) (ds.drop n)
  | _, _, 0, r => r
  | _, _, _ + 1, .nil => .nil
  | _, _, n + 1, .cons _ r => dpAll_drop n r
theorem dpAll_set {v : V} {d : PyData} (h : Dq K F v d) : ∀ {vs : List V} {ds : List PyData} (n : Nat), DqAll K F vs ds → DqAll K F (vs.set n v) (ds.set n d)
  | _, _, _, .nil => .nil
  | _, _, 0, .cons _ r => .cons h r
  | _, _, n + 1, .cons q r => .cons q (dpAll_set h n r)
theorem dpAll_erase : ∀ {vs : List V} {ds : List PyData} (n : Nat), DqAll K F vs ds → DqAll K F (vs.eraseIdx n) (ds.eraseIdx n)
  | _, _, _, .nil => .nil
  | _, _, 0, .cons _ r => r
  | _, _, n + 1, .cons q r => .cons q (dpAll_erase n r)
theorem dpAll_rev : ∀ {vs : List V} {ds : List PyData}, DqAll K F vs ds → DqAll K F vs.reverse ds.reverse
  | _, _, .nil => .nil
  | _, _, .cons h r => by
    rw [List.reverse_cons, List.reverse_cons]
    exact dpAll_app (dpAll_rev r) (.cons h .nil)

/-! ### states -/
def CRel (K : PySem.W.Frag) (F H : Hp) (p : Addr) : Cell → Prop
  | .lst ds => ∃ vs, H p = some (.lst vs) ∧ DqAll K F vs ds
theorem CRel.some' {p : Addr} {c : Cell} (h : CRel K F H p c) : ∃ o, H p = some o := by
  cases c with
  | lst ds => obtain ⟨vs, e, _⟩ := h; exact ⟨_, e⟩
theorem CRel.mono {p : Addr} {c : Cell} (e : Same F F') (k : ∀ o, H p = some o → H' p = some o) (h : CRel K F H p c) : CRel K F' H' p c := by
  cases c with
  | lst ds => obtain ⟨vs, q, r⟩ := h; exact ⟨vs, k _ q, dpAll_mono e r⟩
/-- frozen as it stands -/
theorem CRel.dp {p : Addr} {c : Cell} (s : Same F H) (h : CRel K F H p c) : Dq K H (.ref p) c.data := by
  cases c with
  | lst ds => obtain ⟨vs, q, r⟩ := h; exact .lst (SqL.of q) (dpAll_mono s r)
theorem CRel.frz {p : Addr} {c : Cell} {o : HO} (hf : F p = none) (ho : H p = some o) (h : CRel K F H p c) : Dq K (upd F p o) (.ref p) c.data := by
  cases c with
  | lst ds =>
    obtain ⟨vs, q, r⟩ := h
    rw [ho] at q; cases q
    exact .lst (SqL.of upd_same) (dpAll_mono (Same.upd' hf) r)

def Live (σ : L2.St) (fm : Fm) (p : Addr) : Prop := ∃ (i : Nat) (c : Cell), fm[i]? = some (some (.own c)) ∧ σ[i]? = some (some (.ref p))
structure Rel (K : PySem.W.Frag) (F H : Hp) (σ : L2.St) (fm : Fm) : Prop where
  sub : Same F H
  len : fm.length = σ.length
  dat : ∀ (i : Nat) (d : PyData), fm[i]? = some (some (.dat d)) → ∃ v, σ[i]? = some (some v) ∧ Dq K F v d
  own : ∀ (i : Nat) (c : Cell), fm[i]? = some (some (.own c)) → ∃ p, σ[i]? = some (some (.ref p)) ∧ F p = none ∧ CRel K F H p c
  apart : ∀ (i j : Nat) (c c' : Cell) (p : Addr), i ≠ j → fm[i]? = some (some (.own c)) → fm[j]? = some (some (.own c')) → σ[i]? = some (some (.ref p)) → σ[j]? ≠ some (some (.ref p))
/-- from one state to a later one: L: what may change -/
structure Ext (L : Addr → Prop) (F H : Hp) (L' : Addr → Prop) (F' H' : Hp) : Prop where
  same : Same F F'
  keep : ∀ a o, ¬ L a → H a = some o → H' a = some o
  new : ∀ a o, F' a = some o → F a = some o ∨ H a = none ∨ L a
  live : ∀ a, L' a → L a ∨ H a = none
  grow : ∀ a, H' a = none → H a = none
theorem Ext.refl {L : Addr → Prop} : Ext L F H L F H := ⟨Same.refl _, fun _ _ _ h => h, fun _ _ h => .inl h, fun _ h => .inl h, fun _ h => h⟩
theorem Ext.trans {L L1 L2 : Addr → Prop} {F1 H1 F2 H2 : Hp} (a : Ext L F H L1 F1 H1) (b : Ext L1 F1 H1 L2 F2 H2) : Ext L F H L2 F2 H2 where
  same := a.same.trans b.same
  keep := fun p o hl h => b.keep p o (fun q => by
    rcases a.live p q with q | q
    · exact hl q
    · rw [h] at q; cases q) (a.keep p o hl h)
  new := fun p o h => by
    rcases b.new p o h with q | q | q
    · exact a.new p o q
    · exact .inr (.inl (a.grow p q))
    · rcases a.live p q with q | q
      · exact .inr (.inr q)
      · exact .inr (.inl q)
  live := fun p h => by
    rcases b.live p h with q | q
    · exact a.live p q
    · exact .inr (a.grow p q)
  grow := fun p h => a.grow p (b.grow p h)

def VRel (K : PySem.W.Frag) (F H : Hp) (σ : L2.St) (fm : Fm) : SV → V → Prop
  | .dat d, x => Dq K F x d
  | .fre c, x => ∃ p, x = .ref p ∧ F p = none ∧ CRel K F H p c ∧ ¬ Live σ fm p
  | .bor i, x => σ[i]? = some (some x) ∧ ∃ s : S0, fm[i]? = some (some s)
/-- a new object was not there at H0 -/
def VNew (H0 : Hp) : SV → V → Prop
  | .fre _, x => ∀ p, x = .ref p → H0 p = none
  | _, _ => True
theorem VNew.back {L L' : Addr → Prop} (e : Ext L F H L' F' H') {v : SV} {x : V} (h : VNew H' v x) : VNew H v x := by
  cases v with
  | fre c => exact fun p q => e.grow p (h p q)
  | dat _ => trivial
  | bor _ => trivial
variable {σ : L2.St} {fm fm' : Fm} {v : SV} {x : V}
/-- slots stay -/
def Keeps (fm fm' : Fm) : Prop := ∀ (i : Nat) (s : S0), fm[i]? = some (some s) → ∃ s' : S0, fm'[i]? = some (some s')
theorem Keeps.refl (fm : Fm) : Keeps fm fm := fun _ s h => ⟨s, h⟩
theorem Keeps.trans {a b c : Fm} (h : Keeps a b) (k : Keeps b c) : Keeps a c := fun i s e => by
  obtain ⟨s1, e1⟩ := h i s e
  exact k i s1 e1
theorem VRel.mono (e : Ext (Live σ fm) F H (Live σ fm') F' H') (k : Keeps fm fm') (h : VRel K F H σ fm v x) : VRel K F' H' σ fm' v x := by
  cases v with
  | dat d => exact dp_mono e.same h
  | fre c =>
    obtain ⟨p, ex, hf, hc, hl⟩ := h
    obtain ⟨o, ho⟩ := hc.some'
    refine ⟨p, ex, ?_, hc.mono e.same (fun o h => e.keep p o hl h), fun q => ?_⟩
    · cases q : F' p with
      | none => rfl
      | some u =>
        rcases e.new p u q with z | z | z
        · rw [hf] at z; cases z
        · rw [ho] at z; cases z
        · exact absurd z hl
    · rcases e.live p q with z | z
      · exact hl z
      · rw [ho] at z; cases z
  | bor i =>
    obtain ⟨h1, s, h2⟩ := h
    exact ⟨h1, k i s h2⟩
theorem peek_dp (R : Rel K F H σ fm) (h : VRel K F H σ fm v x) {d : PyData} (hp : peek v fm = some d) : Dq K H x d := by
  cases v with
  | dat d' => cases hp; exact dp_mono R.sub h
  | fre c =>
    cases hp
    obtain ⟨p, rfl, hf, hc, _⟩ := h
    exact hc.dp R.sub
  | bor i =>
    obtain ⟨h1, s, h2⟩ := h
    simp only [peek, h2] at hp
    cases s with
    | dat d' =>
      cases hp
      obtain ⟨y, hy, q⟩ := R.dat i _ h2
      rw [h1] at hy; cases hy
      exact dp_mono R.sub q
    | own c =>
      cases hp
      obtain ⟨p, hy, hf, q⟩ := R.own i _ h2
      rw [h1] at hy; cases hy
      exact q.dp R.sub
theorem peek_list (R : Rel K F H σ fm) (h : VRel K F H σ fm v x) {ds : List PyData} (hp : peek v fm = some (.list ds)) : ∃ a vs, x = .ref a ∧ SqL K H a vs ∧ DqAll K F vs ds := by
  have fromDp : ∀ {y : V}, Dq K F y (.list ds) → ∃ a vs, y = .ref a ∧ SqL K H a vs ∧ DqAll K F vs ds := fun q => by
    cases q with
    | lst s r => exact ⟨_, _, rfl, R.sub.seq s, r⟩
  have fromC : ∀ {p : Addr} {c : Cell}, c.data = .list ds → CRel K F H p c → ∃ a vs, V.ref p = .ref a ∧ SqL K H a vs ∧ DqAll K F vs ds := fun {p c} e q => by
    cases c with
    | lst es =>
      cases e
      obtain ⟨vs, q, r⟩ := q
      exact ⟨p, vs, rfl, SqL.of q, r⟩
  cases v with
  | dat d' => cases hp; exact fromDp h
  | fre c =>
    obtain ⟨p, rfl, hf, hc, _⟩ := h
    exact fromC (Option.some.inj hp) hc
  | bor i =>
    obtain ⟨h1, s, h2⟩ := h
    simp only [peek, h2] at hp
    cases s with
    | dat d' =>
      cases hp
      obtain ⟨y, hy, q⟩ := R.dat i _ h2
      rw [h1] at hy; cases hy
      exact fromDp q
    | own c =>
      obtain ⟨p, hy, hf, q⟩ := R.own i _ h2
      rw [h1] at hy; cases hy
      exact fromC (Option.some.inj hp) q
theorem Cell.data_list (c : Cell) : ∃ ds, c.data = .list ds := by cases c; exact ⟨_, rfl⟩
/-- what is no list is data -/
theorem peek_flat (R : Rel K F H σ fm) (h : VRel K F H σ fm v x) {d : PyData} (hp : peek v fm = some d) (hd : ∀ ds, d ≠ .list ds) : Dq K F x d := by
  cases v with
  | dat d' => cases hp; exact h
  | fre c =>
    obtain ⟨ds, e⟩ := c.data_list
    exact absurd ((Option.some.inj hp).symm.trans e) (hd ds)
  | bor i =>
    obtain ⟨h1, s, h2⟩ := h
    simp only [peek, h2] at hp
    cases s with
    | dat d' =>
      cases hp
      obtain ⟨y, hy, q⟩ := R.dat i _ h2
      rw [h1] at hy; cases hy
      exact q
    | own c =>
      obtain ⟨ds, e⟩ := c.data_list
      exact absurd ((Option.some.inj hp).symm.trans e) (hd ds)
theorem peek_tup (R : Rel K F H σ fm) (h : VRel K F H σ fm v x) {ds : List PyData} (hp : peek v fm = some (.tuple ds)) : ∃ a vs, x = .ref a ∧ SqP K H a vs ∧ DqAll K F vs ds := by
  cases peek_flat R h hp (fun _ e => nomatch e) with
  | tup s r => exact ⟨_, _, rfl, sqP_mono R.sub s, r⟩
theorem peek_int (R : Rel K F H σ fm) (h : VRel K F H σ fm v x) {i : Int} (hp : peek v fm = some (.int i)) : x = .int i := by
  cases peek_flat R h hp (fun _ e => nomatch e); rfl
theorem peek_bool (R : Rel K F H σ fm) (h : VRel K F H σ fm v x) {i : Bool} (hp : peek v fm = some (.bool i)) : x = .bl i := by
  cases peek_flat R h hp (fun _ e => nomatch e); rfl
theorem peek_none (R : Rel K F H σ fm) (h : VRel K F H σ fm v x) (hp : peek v fm = some .none) : x = .non := by
  cases peek_flat R h hp (fun _ e => nomatch e); rfl
theorem peek_str (R : Rel K F H σ fm) (h : VRel K F H σ fm v x) {i : Str} (hp : peek v fm = some (.str i)) : x = .str i := by
  cases peek_flat R h hp (fun _ e => nomatch e); rfl

/-! ### freezing -/
theorem keeps_set {i : Nat} {s : S0} : Keeps fm (fm.set i (some s)) := fun j t h => by
  by_cases e : i = j
  · subst e
    have hl : i < fm.length := by
      obtain ⟨hl, _⟩ := List.getElem?_eq_some_iff.mp h
      exact hl
    exact ⟨s, List.getElem?_set_self hl⟩
  · exact ⟨t, by rw [List.getElem?_set_ne e]; exact h⟩
theorem live_frz {i : Nat} {d : PyData} {p : Addr} (h : Live σ (fm.set i (some (.dat d))) p) : Live σ fm p := by
  obtain ⟨j, c, h1, h2⟩ := h
  by_cases e : i = j
  · subst e
    have hl : i < fm.length := by
      obtain ⟨hl, _⟩ := List.getElem?_eq_some_iff.mp h1
      simpa using hl
    rw [List.getElem?_set_self hl] at h1
    cases h1
  · rw [List.getElem?_set_ne e] at h1
    exact ⟨j, c, h1, h2⟩
/-- an object that nobody's slot holds is frozen -/
theorem Rel.frz1 {p : Addr} {o : HO} (R : Rel K F H σ fm) (hf : F p = none) (ho : H p = some o) (hl : ¬ Live σ fm p) : Rel K (upd F p o) H σ fm := by
  have e : Same F (upd F p o) := Same.upd' hf
  refine ⟨fun b u q => ?_, R.len, fun i d h => ?_, fun i c h => ?_, R.apart⟩
  · by_cases z : b = p
    · subst z; rw [upd_same] at q; cases q; exact ho
    · rw [upd_ne z] at q; exact R.sub _ _ q
  · obtain ⟨y, h1, h2⟩ := R.dat i d h
    exact ⟨y, h1, dp_mono e h2⟩
  · obtain ⟨q, h1, h2, h3⟩ := R.own i c h
    have ne : q ≠ p := fun z => hl (by subst z; exact ⟨i, c, h, h1⟩)
    exact ⟨q, h1, by rw [upd_ne ne]; exact h2, h3.mono e fun _ h => h⟩
/-- the object of slot i is frozen -/
theorem Rel.frz2 {i : Nat} {c : Cell} {p : Addr} {o : HO} (R : Rel K F H σ fm) (hi : fm[i]? = some (some (.own c))) (hx : σ[i]? = some (some (.ref p))) (ho : H p = some o) :
    Rel K (upd F p o) H σ (fm.set i (some (.dat c.data))) := by
  obtain ⟨p', hx', hf, hc⟩ := R.own i c hi
  rw [hx] at hx'; cases hx'
  have e : Same F (upd F p o) := Same.upd' hf
  have hil : i < fm.length := by
    obtain ⟨hl, _⟩ := List.getElem?_eq_some_iff.mp hi
    exact hl
  refine ⟨fun b u q => ?_, by rw [List.length_set]; exact R.len, fun j d h => ?_, fun j c' h => ?_, fun j k c' c'' q hne h1 h2 h3 => ?_⟩
  · by_cases z : b = p
    · subst z; rw [upd_same] at q; cases q; exact ho
    · rw [upd_ne z] at q; exact R.sub _ _ q
  · by_cases z : i = j
    · subst z
      rw [List.getElem?_set_self hil] at h
      cases h
      exact ⟨_, hx, hc.frz hf ho⟩
    · rw [List.getElem?_set_ne z] at h
      obtain ⟨y, h1, h2⟩ := R.dat j d h
      exact ⟨y, h1, dp_mono e h2⟩
  · by_cases z : i = j
    · subst z
      rw [List.getElem?_set_self hil] at h
      cases h
    · rw [List.getElem?_set_ne z] at h
      obtain ⟨q, h1, h2, h3⟩ := R.own j c' h
      have ne : q ≠ p := fun w => by subst w; exact R.apart i j c c' q z hi h hx h1
      exact ⟨q, h1, by rw [upd_ne ne]; exact h2, h3.mono e fun _ h => h⟩
  · have f : ∀ {j : Nat} {c' : Cell}, (fm.set i (some (.dat c.data)))[j]? = some (some (.own c')) → fm[j]? = some (some (.own c')) := fun {j c'} h => by
      by_cases z : i = j
      · subst z; rw [List.getElem?_set_self hil] at h; cases h
      · rw [List.getElem?_set_ne z] at h; exact h
    exact R.apart j k c' c'' q hne (f h1) (f h2) h3
/-- a value becomes data; L, F0, H0: the state ahead of the value's making -/
theorem frz_ok {L : Addr → Prop} {F0 H0 : Hp} {d : PyData} (E : Ext L F0 H0 (Live σ fm) F H) (R : Rel K F H σ fm) (h : VRel K F H σ fm v x) (hn : VNew H0 v x) (hp : frz v fm = some (d, fm')) :
    ∃ F', Ext L F0 H0 (Live σ fm') F' H ∧ Ext (Live σ fm) F H (Live σ fm') F H ∧ Same F F' ∧ Rel K F' H σ fm' ∧ Dq K F' x d ∧ Keeps fm fm' ∧ (∀ a o, F' a = some o → F a = some o ∨ Live σ fm a ∨ (x = .ref a ∧ ∃ c, v = .fre c)) := by
  cases v with
  | dat d' =>
    cases hp
    exact ⟨F, E, Ext.refl, Same.refl _, R, h, Keeps.refl _, fun _ _ h => .inl h⟩
  | fre c =>
    cases hp
    obtain ⟨p, rfl, hf, hc, hl⟩ := h
    obtain ⟨o, ho⟩ := hc.some'
    have e : Same F (upd F p o) := Same.upd' hf
    refine ⟨upd F p o, ⟨E.same.trans e, E.keep, fun a u q => ?_, E.live, E.grow⟩, Ext.refl, e, R.frz1 hf ho hl, hc.frz hf ho, Keeps.refl _, fun a u q => ?_⟩
    · by_cases z : a = p
      · subst z; exact .inr (.inl (hn _ rfl))
      · rw [upd_ne z] at q; exact E.new a u q
    · by_cases z : a = p
      · subst z; exact .inr (.inr ⟨rfl, _, rfl⟩)
      · rw [upd_ne z] at q; exact .inl q
  | bor i =>
    obtain ⟨h1, s, h2⟩ := h
    simp only [frz, h2] at hp
    cases s with
    | dat d' =>
      cases hp
      obtain ⟨y, hy, q⟩ := R.dat i _ h2
      rw [h1] at hy; cases hy
      exact ⟨F, E, Ext.refl, Same.refl _, R, q, Keeps.refl _, fun _ _ h => .inl h⟩
    | own c =>
      cases hp
      obtain ⟨p, hy, hf, hc⟩ := R.own i _ h2
      rw [h1] at hy; cases hy
      obtain ⟨o, ho⟩ := hc.some'
      have e : Same F (upd F p o) := Same.upd' hf
      refine ⟨upd F p o, ⟨E.same.trans e, E.keep, fun a u q => ?_, fun a q => E.live a (live_frz q), E.grow⟩, ⟨Same.refl _, fun _ _ _ h => h, fun _ _ h => .inl h, fun a q => .inl (live_frz q), fun _ h => h⟩, e, R.frz2 h2 h1 ho, hc.frz hf ho, keeps_set, fun a u q => ?_⟩
      · by_cases z : a = p
        · subst z
          rcases E.live a ⟨i, c, h2, h1⟩ with w | w
          · exact .inr (.inr w)
          · exact .inr (.inl w)
        · rw [upd_ne z] at q; exact E.new a u q
      · by_cases z : a = p
        · subst z; exact .inr (.inl ⟨i, c, h2, h1⟩)
        · rw [upd_ne z] at q; exact .inl q
end
end Rf

namespace Rf
open PySem L2

/-! ### readings of meanings -/
structure Aft (K : PySem.W.Frag) (σ : L2.St) (F H : Hp) (fm : Fm) (F' H' : Hp) (fm' : Fm) : Prop where
  ext : Ext (Live σ fm) F H (Live σ fm') F' H'
  kp : Keeps fm fm'
  rel : Rel K F' H' σ fm'
section
variable {K : PySem.W.Frag} {F F' F1 H H' H1 : Hp} {σ σ' : L2.St} {fm fm' fm1 : Fm} {v : SV} {x : V}
theorem Aft.refl (R : Rel K F H σ fm) : Aft K σ F H fm F H fm := ⟨Ext.refl, Keeps.refl _, R⟩
theorem Aft.trans (a : Aft K σ F H fm F1 H1 fm1) (b : Aft K σ F1 H1 fm1 F' H' fm') : Aft K σ F H fm F' H' fm' := ⟨a.ext.trans b.ext, a.kp.trans b.kp, b.rel⟩
theorem Aft.val (a : Aft K σ F H fm F' H' fm') (h : VRel K F H σ fm v x) : VRel K F' H' σ fm' v x := h.mono a.ext a.kp
theorem Aft.new (a : Aft K σ F H fm F' H' fm') (h : VNew H' v x) : VNew H v x := h.back a.ext
/-- a new object; not frozen | frozen -/
theorem Aft.lay {p : Addr} {o : HO} (R : Rel K F H σ fm) (hp : H p = none) : Aft K σ F H fm F (upd H p o) fm := by
  have s : Same H (upd H p o) := Same.upd' hp
  refine ⟨⟨Same.refl _, fun a u _ h => s a u h, fun a u h => .inl h, fun a h => .inl h, fun a h => ?_⟩, Keeps.refl _, ⟨R.sub.trans s, R.len, R.dat, fun i c h => ?_, R.apart⟩⟩
  · exact s.free h
  · obtain ⟨q, h1, h2, h3⟩ := R.own i c h
    exact ⟨q, h1, h2, h3.mono (Same.refl _) fun u h => s q u h⟩
theorem Rel.fnone {p : Addr} (R : Rel K F H σ fm) (hp : H p = none) : F p = none := R.sub.free hp
theorem Rel.nolive {p : Addr} (R : Rel K F H σ fm) (hp : H p = none) : ¬ Live σ fm p := fun ⟨i, c, h1, h2⟩ => by
  obtain ⟨q, h3, _, h4⟩ := R.own i c h1
  rw [h2] at h3; cases h3
  obtain ⟨o, h⟩ := h4.some'
  rw [hp] at h; cases h
theorem Aft.layF {p : Addr} {o : HO} (R : Rel K F H σ fm) (hp : H p = none) : Aft K σ F H fm (upd F p o) (upd H p o) fm := by
  have a := Aft.lay (o := o) R hp
  have hf := R.fnone hp
  have R2 := a.rel.frz1 (p := p) (o := o) hf upd_same (R.nolive hp)
  refine ⟨⟨Same.upd' hf, a.ext.keep, fun b u h => ?_, a.ext.live, a.ext.grow⟩, a.kp, R2⟩
  by_cases z : b = p
  · subst z; exact .inr (.inl hp)
  · rw [upd_ne z] at h; exact .inl h
theorem Aft.newL {p : Addr} {vs : List V} {ds : List PyData} (R : Rel K F H σ fm) (hp : H p = none) (r : DqAll K F vs ds) : VRel K F (upd H p (.lst vs)) σ fm (.fre (.lst ds)) (.ref p) :=
  ⟨p, rfl, R.fnone hp, ⟨vs, upd_same, r⟩, R.nolive hp⟩
theorem Aft.newT {p : Addr} {o : Obj} {vs : List V} {ds : List PyData} (R : Rel K F H σ fm) (hp : H p = none) (hd : o.dict = none) (r : DqAll K F vs ds) : VRel K (upd F p (.frz o (.tup vs))) (upd H p (.frz o (.tup vs))) σ fm (.dat (.tuple ds)) (.ref p) :=
  .tup ⟨.inl (.inr ⟨o, upd_same⟩), .inl ⟨o, upd_same, hd⟩⟩ (dpAll_mono (Same.upd' (R.fnone hp)) r)
theorem VNew.dat {d : PyData} : VNew H (.dat d) x := trivial
theorem VNew.ref {c : Cell} {p : Addr} (h : H p = none) : VNew H (.fre c) (.ref p) := fun q e => by cases e; exact h

def tE (K : PySem.W.Frag) (m : ME) : TE := fun σ H Q => ∃ F fm v fm', Rel K F H σ fm ∧ m fm = some (v, fm') ∧
  ∀ x F' H', Aft K σ F H fm F' H' fm' → VRel K F' H' σ fm' v x → VNew H v x → Q x H'
def tT (K : PySem.W.Frag) (m : MT) : TT := fun σ H Q => ∃ F fm b fm', Rel K F H σ fm ∧ m fm = some (b, fm') ∧
  ∀ F' H', Aft K σ F H fm F' H' fm' → Q b H'
/-- several values: each as it is told, new ones apart -/
inductive VsRel (K : PySem.W.Frag) (F H : Hp) (σ : L2.St) (fm : Fm) : List SV → List V → Prop
  | nil : VsRel K F H σ fm [] []
  | cons {v : SV} {x : V} {vs : List SV} {xs : List V} : VRel K F H σ fm v x → VsRel K F H σ fm vs xs → (∀ (c : Cell), v = .fre c → ∀ (j : Nat) (c' : Cell), vs[j]? = some (.fre c') → xs[j]? ≠ some x) → VsRel K F H σ fm (v :: vs) (x :: xs)
inductive VsNew (H : Hp) : List SV → List V → Prop
  | nil : VsNew H [] []
  | cons {v : SV} {x : V} {vs : List SV} {xs : List V} : VNew H v x → VsNew H vs xs → VsNew H (v :: vs) (x :: xs)
def tA (K : PySem.W.Frag) (m : MA) : TA := fun σ H Q => ∃ F fm vs fm', Rel K F H σ fm ∧ m fm = some (vs, fm') ∧
  ∀ xs F' H', Aft K σ F H fm F' H' fm' → VsRel K F' H' σ fm' vs xs → VsNew H vs xs → Q xs H'
theorem VsRel.mono (a : Aft K σ F H fm F' H' fm') : ∀ {vs : List SV} {xs : List V}, VsRel K F H σ fm vs xs → VsRel K F' H' σ fm' vs xs
  | _, _, .nil => .nil
  | _, _, .cons h r d => .cons (a.val h) (VsRel.mono a r) d
theorem VsRel.len : ∀ {vs : List SV} {xs : List V}, VsRel K F H σ fm vs xs → vs.length = xs.length
  | _, _, .nil => rfl
  | _, _, .cons _ r _ => by simp [r.len]
theorem VsNew.back {L L' : Addr → Prop} (e : Ext L F H L' F' H') : ∀ {vs : List SV} {xs : List V}, VsNew H' vs xs → VsNew H vs xs
  | _, _, .nil => .nil
  | _, _, .cons h r => .cons (h.back e) (VsNew.back e r)
theorem VsNew.get : ∀ {vs : List SV} {xs : List V} {j : Nat} {v : SV} {x : V}, VsNew H vs xs → vs[j]? = some v → xs[j]? = some x → VNew H v x
  | _, _, _, _, _, .nil, h, _ => by simp at h
  | _, _, 0, _, _, .cons h _, e1, e2 => by simp at e1 e2; subst e1 e2; exact h
  | _, _, j + 1, _, _, .cons _ r, e1, e2 => VsNew.get (j := j) r (by simpa using e1) (by simpa using e2)

/-! ### judgements -/
structure AftS (K : PySem.W.Frag) (ro : List Nat) (σ : L2.St) (F H : Hp) (fm : Fm) (σ' : L2.St) (F' H' : Hp) (fm' : Fm) : Prop where
  ext : Ext (Live σ fm) F H (Live σ' fm') F' H'
  rel : Rel K F' H' σ' fm'
  pin : ∀ i ∈ ro, σ'[i]? = σ[i]?
theorem AftS.trans {ro : List Nat} {σ1 : L2.St} (a : AftS K ro σ F H fm σ1 F1 H1 fm1) (b : AftS K ro σ1 F1 H1 fm1 σ' F' H' fm') : AftS K ro σ F H fm σ' F' H' fm' :=
  ⟨a.ext.trans b.ext, b.rel, fun i hi => (b.pin i hi).trans (a.pin i hi)⟩
theorem AftS.refl {ro : List Nat} (R : Rel K F H σ fm) : AftS K ro σ F H fm σ F H fm := ⟨Ext.refl, R, fun _ _ => rfl⟩
theorem Aft.s {ro : List Nat} (a : Aft K σ F H fm F' H' fm') : AftS K ro σ F H fm σ F' H' fm' := ⟨a.ext, a.rel, fun _ _ => rfl⟩
def Out (K : PySem.W.Frag) (D : Ends) (H F' H' : Hp) (σ' : L2.St) (fm' : Fm) : Fl → Prop
  | .nx => D.nx σ' H'
  | .bk => D.bk σ' H'
  | .ct => D.ct σ' H'
  | .rt v => ∀ x, VRel K F' H' σ' fm' v x → VNew H v x → D.rt x H'
def tS (K : PySem.W.Frag) (ro : List Nat) (m : MS) : TS := fun D σ H => ∃ F fm fl fm', Rel K F H σ fm ∧ m fm = some (fl, fm') ∧
  ∀ σ' F' H', AftS K ro σ F H fm σ' F' H' fm' → Out K D H F' H' σ' fm' fl
end
def SE (X : Cx) (e : Expr) (m : ME) : Prop := PE X e (tE X.K m)
def ST (X : Cx) (e : Expr) (m : MT) : Prop := PT X e (tT X.K m)
def SW (X : Cx) (e : Expr) (m : MT) : Prop := PW X e (tT X.K m)
def SA (X : Cx) (es : List Expr) (m : MA) : Prop := PA X es (tA X.K m)
def SS (X : Cx) (ro : List Nat) (st : Stmt) (m : MS) : Prop := PS X st (tS X.K ro m)
def SSs (X : Cx) (ro : List Nat) (sts : List Stmt) (m : MS) : Prop := PSs X sts (tS X.K ro m)
section
variable {X : Cx} {e a b c : Expr} {es : List Expr} {pos p1 p2 : Pos} {st : Stmt} {sts : List Stmt} {ro : List Nat}
theorem pe_le {t t' : TE} (h : PE X e t) (k : ∀ σ H Q, t' σ H Q → t σ H Q) : PE X e t' := ⟨fun pins s σ H Q I q => h.run pins s σ H Q I (k σ H Q q)⟩
theorem pt_le {t t' : TT} (h : PT X e t) (k : ∀ σ H Q, t' σ H Q → t σ H Q) : PT X e t' := ⟨fun pins s σ H Q I q => h.run pins s σ H Q I (k σ H Q q)⟩
theorem pw_le {t t' : TT} (h : PW X e t) (k : ∀ σ H Q, t' σ H Q → t σ H Q) : PW X e t' := ⟨fun wh pins s σ H Q I q => h.run wh pins s σ H Q I (k σ H Q q)⟩
theorem pa_le {t t' : TA} (h : PA X es t) (k : ∀ σ H Q, t' σ H Q → t σ H Q) : PA X es t' := ⟨fun pos pins s σ H Q I q => h.run pos pins s σ H Q I (k σ H Q q)⟩
theorem ps_le {t t' : TS} (h : PS X st t) (k : ∀ D σ H, t' D σ H → t D σ H) : PS X st t' := ⟨fun pins s σ H D I q => h.run pins s σ H D I (k D σ H q)⟩
theorem pss_le {t t' : TS} (h : PSs X sts t) (k : ∀ D σ H, t' D σ H → t D σ H) : PSs X sts t' := ⟨fun pins s σ H D I q => h.run pins s σ H D I (k D σ H q)⟩

/-! ### names, constants -/
def mVar (i : Nat) : ME := fun fm => match fm[i]? with
  | some (some (.dat d)) => some (.dat d, fm)
  | some (some (.own _)) => some (.bor i, fm)
  | _ => none
theorem se_var (i : Nat) {x : Str} (hN : X.N[i]? = some x := by rfl) (hv : Vis X.env.scope x := by first | exact Or.inl rfl | exact Or.inr (Or.inl rfl) | exact Or.inr (Or.inr rfl)) (hd : (x == ("__debug__" : Str)) = false := by decide)
    (hcd : (x == ("__classdict__" : Str)) = false := by decide) : SE X (.Name x pos) (mVar i) := by
  refine pe_le (pe_var hN hv hd hcd) fun σ H Q ⟨F, fm, v, fm', R, em, q⟩ => ?_
  simp only [mVar] at em
  split at em
  · rename_i d hd
    cases em
    obtain ⟨y, hy, hD⟩ := R.dat i d hd
    exact ⟨y, hy, q y F H (Aft.refl R) hD VNew.dat⟩
  · rename_i c hd
    cases em
    obtain ⟨p, hy, hf, hc⟩ := R.own i c hd
    exact ⟨.ref p, hy, q _ F H (Aft.refl R) ⟨hy, _, hd⟩ trivial⟩
  · cases em
def mLit (d : PyData) : ME := fun fm => some (.dat d, fm)
theorem se_lit {v : V} {d : PyData} (h : PE X e (tC v)) (hd : ∀ K F, Dq K F v d) : SE X e (mLit d) :=
  pe_le h fun σ H Q ⟨F, fm, w, fm', R, em, q⟩ => by
    cases em
    exact q v F H (Aft.refl R) (hd _ _) VNew.dat
theorem se_int {i : Int} {j} : SE X (.Constant (.int i) j pos) (mLit (.int i)) := se_lit pe_int fun _ _ => .int i
theorem se_bl {i : Bool} {j} : SE X (.Constant (.bool i) j pos) (mLit (.bool i)) := se_lit pe_bl fun _ _ => .bl i
theorem se_non {j} : SE X (.Constant .none j pos) (mLit .none) := se_lit pe_non fun _ _ => .non
theorem se_str {i : Str} {j} : SE X (.Constant (.str i) j pos) (mLit (.str i)) := se_lit pe_str fun _ _ => .str i

/-! ### operations on two values -/
abbrev F2 := SV → SV → Fm → Option (SV × Fm)
def Prim2 (K : PySem.W.Frag) (r : R2) (f : F2) : Prop := ∀ (F H : Hp) (σ : L2.St) (fm fm' : Fm) (va vb : SV) (x y : V) (v : SV), Rel K F H σ fm → VRel K F H σ fm va x → VRel K F H σ fm vb y → f va vb fm = some (v, fm') →
  ∀ Q : VK, (∀ z F' H', Aft K σ F H fm F' H' fm' → VRel K F' H' σ fm' v z → VNew H v z → Q z H') → r x y H Q
def m2 (f : F2) (ma mb : ME) : ME := fun fm => match ma fm with
  | some (va, fm1) => match mb fm1 with
    | some (vb, fm2) => f va vb fm2
    | none => none
  | none => none
theorem m2_inv {f : F2} {ma mb : ME} {fm fm' : Fm} {v : SV} (h : m2 f ma mb fm = some (v, fm')) : ∃ va fm1 vb fm2, ma fm = some (va, fm1) ∧ mb fm1 = some (vb, fm2) ∧ f va vb fm2 = some (v, fm') := by
  unfold m2 at h
  split at h
  · rename_i va fm1 h1
    split at h
    · rename_i vb fm2 h2
      exact ⟨va, fm1, vb, fm2, h1, h2, h⟩
    · cases h
  · cases h
theorem tE_2 {K : PySem.W.Frag} {r : R2} {f : F2} {ma mb : ME} (P : Prim2 K r f) {σ : L2.St} {H : Hp} {Q : VK} (h : tE K (m2 f ma mb) σ H Q) : tOp r (tE K ma) (tE K mb) σ H Q := by
  obtain ⟨F, fm, v, fm', R, em, q⟩ := h
  obtain ⟨va, fm1, vb, fm2, e1, e2, e3⟩ := m2_inv em
  refine ⟨F, fm, va, fm1, R, e1, fun x F1 H1 A1 V1 N1 => ⟨F1, fm1, vb, fm2, A1.rel, e2, fun y F2 H2 A2 V2 N2 => ?_⟩⟩
  refine P F2 H2 σ fm2 fm' va vb x y v A2.rel (A2.val V1) V2 e3 Q fun z F3 H3 A3 V3 N3 => ?_
  exact q z F3 H3 ((A1.trans A2).trans A3) V3 ((A1.trans A2).new N3)
theorem se_op {op : Operator} {r : R2} {f : F2} {ma mb : ME} (ho : OpR X (binaryOp op) r) (P : Prim2 X.K r f) (ha : SE X a ma) (hb : SE X b mb) : SE X (.BinOp a op b pos) (m2 f ma mb) :=
  pe_le (pe_op ho ha hb) fun σ H Q h => tE_2 P h
theorem se_cmp {op : CmpOp} {r : R2} {f : F2} {ma mb : ME} (ho : OpR X (compareOp op) r) (P : Prim2 X.K r f) (ha : SE X a ma) (hb : SE X b mb) (hm : behindInMarks op b = false) : SE X (.Compare a [op] [b] pos) (m2 f ma mb) :=
  pe_le (pe_cmpR ho ha hb hm) fun σ H Q h => tE_2 P h
theorem se_ix {r : R2} {f : F2} {ma mb : ME} (ho : IxR X r) (P : Prim2 X.K r f) (ha : SE X a ma) (hb : SE X b mb) (hs : PlainIx b := by intro _ _; rfl) : SE X (.Subscript a b pos) (m2 f ma mb) :=
  pe_le (pe_ix ho ha hb hs) fun σ H Q h => tE_2 P h

/-! ### tests -/
def mB (m : ME) : MT := fun fm => match m fm with
  | some (.dat (.bool b), fm1) => some (b, fm1)
  | _ => none
theorem mB_inv {m : ME} {fm fm' : Fm} {k : Bool} (h : mB m fm = some (k, fm')) : m fm = some (.dat (.bool k), fm') := by
  unfold mB at h
  split at h
  · rename_i h1; cases h; exact h1
  · cases h
theorem tT_B {K : PySem.W.Frag} {m : ME} {σ : L2.St} {H : Hp} {Q : Bool → Hp → Prop} (h : tT K (mB m) σ H Q) : tE K m σ H fun x H1 => ∃ k, x = .bl k ∧ Q k H1 := by
  obtain ⟨F, fm, k, fm', R, em, q⟩ := h
  refine ⟨F, fm, _, fm', R, mB_inv em, fun x F' H' A V N => ?_⟩
  cases (show Dq K F' x (.bool k) from V)
  exact ⟨k, rfl, q F' H' A⟩
theorem st_val {m : ME} (h : SE X e m) (he : ∀ whole, isTrue e X.env whole = (do let v ← whole; standAt e.pos; holding [v] (truthy v)) := by intro _; rfl) : ST X e (mB m) :=
  pt_le (pt_val h he) fun σ H Q h => tT_B h
theorem st_cmp {op : CmpOp} {r : R2} {f : F2} {ma mb : ME} (ho : OpR X (compareOp op) r) (P : Prim2 X.K r f) (ha : SE X a ma) (hb : SE X b mb) (hm : behindInMarks op b = false) : ST X (.Compare a [op] [b] pos) (mB (m2 f ma mb)) :=
  pt_le (pt_cmpR ho ha hb hm) fun σ H Q h => by
    obtain ⟨F, fm, v, fm', R, em, q⟩ := tT_B h
    exact tE_2 P ⟨F, fm, v, fm', R, em, q⟩
def mAndT (m n : MT) : MT := fun fm => match m fm with
  | some (true, fm1) => n fm1
  | some (false, fm1) => some (false, fm1)
  | none => none
def mOrT (m n : MT) : MT := fun fm => match m fm with
  | some (false, fm1) => n fm1
  | some (true, fm1) => some (true, fm1)
  | none => none
def mNotT (m : MT) : MT := fun fm => match m fm with
  | some (k, fm1) => some (!k, fm1)
  | none => none
theorem tT_and {K : PySem.W.Frag} {m n : MT} {σ : L2.St} {H : Hp} {Q : Bool → Hp → Prop} (h : tT K (mAndT m n) σ H Q) : tAnd (tT K m) (tT K n) σ H Q := by
  obtain ⟨F, fm, k, fm', R, em, q⟩ := h
  unfold mAndT at em
  split at em
  · rename_i fm1 e1
    refine ⟨F, fm, true, _, R, e1, fun F1 H1 A1 => ?_⟩
    refine iteT ?_
    exact ⟨F1, fm1, k, fm', A1.rel, em, fun F2 H2 A2 => q F2 H2 (A1.trans A2)⟩
  · rename_i fm1 e1
    cases em
    refine ⟨F, fm, false, _, R, e1, fun F1 H1 A1 => ?_⟩
    refine iteF ?_
    exact q F1 H1 A1
  · cases em
theorem tT_or {K : PySem.W.Frag} {m n : MT} {σ : L2.St} {H : Hp} {Q : Bool → Hp → Prop} (h : tT K (mOrT m n) σ H Q) : tOr (tT K m) (tT K n) σ H Q := by
  obtain ⟨F, fm, k, fm', R, em, q⟩ := h
  unfold mOrT at em
  split at em
  · rename_i fm1 e1
    refine ⟨F, fm, false, _, R, e1, fun F1 H1 A1 => ?_⟩
    refine iteF ?_
    exact ⟨F1, fm1, k, fm', A1.rel, em, fun F2 H2 A2 => q F2 H2 (A1.trans A2)⟩
  · rename_i fm1 e1
    cases em
    refine ⟨F, fm, true, _, R, e1, fun F1 H1 A1 => ?_⟩
    refine iteT ?_
    exact q F1 H1 A1
  · cases em
theorem sw_st {m : MT} (h : SW X e m) : ST X e m := PW.pt h
theorem sw_and1 {m : MT} (h : ST X a m) : SW X (.BoolOp .And [a] pos) m := pw_and1 h
theorem sw_or1 {m : MT} (h : ST X a m) : SW X (.BoolOp .Or [a] pos) m := pw_or1 h
theorem sw_and {m n : MT} (h : ST X a m) (hb : SW X (.BoolOp .And (b :: es) pos) n) : SW X (.BoolOp .And (a :: b :: es) pos) (mAndT m n) :=
  pw_le (pw_and h hb) fun σ H Q h => tT_and h
theorem sw_or {m n : MT} (h : ST X a m) (hb : SW X (.BoolOp .Or (b :: es) pos) n) : SW X (.BoolOp .Or (a :: b :: es) pos) (mOrT m n) :=
  pw_le (pw_or h hb) fun σ H Q h => tT_or h
theorem st_not {m : MT} (h : ST X a m) : ST X (.UnaryOp .Not a pos) (mNotT m) :=
  pt_le (pt_not h) fun σ H Q ⟨F, fm, k, fm', R, em, q⟩ => by
    unfold mNotT at em
    split at em
    · rename_i k' fm1 e1
      cases em
      exact ⟨F, fm, k', _, R, e1, q⟩
    · cases em
/-- as values -/
def mAndV (ma mb : ME) : ME := fun fm => match ma fm with
  | some (.dat (.bool true), fm1) => mb fm1
  | some (.dat (.bool false), fm1) => some (.dat (.bool false), fm1)
  | _ => none
def mOrV (ma mb : ME) : ME := fun fm => match ma fm with
  | some (.dat (.bool false), fm1) => mb fm1
  | some (.dat (.bool true), fm1) => some (.dat (.bool true), fm1)
  | _ => none
def mNotV (ma : ME) : ME := fun fm => match ma fm with
  | some (.dat (.bool k), fm1) => some (.dat (.bool (!k)), fm1)
  | _ => none
theorem se_one {op} {m : ME} (h : SE X a m) : SE X (.BoolOp op [a] pos) m := pe_one h
theorem se_and {ma mb : ME} (ha : SE X a ma) (hb : SE X (.BoolOp .And (b :: es) pos) mb) : SE X (.BoolOp .And (a :: b :: es) pos) (mAndV ma mb) :=
  pe_le (pe_and ha hb) fun σ H Q ⟨F, fm, v, fm', R, em, q⟩ => by
    unfold mAndV at em
    split at em
    · rename_i fm1 e1
      refine ⟨F, fm, _, _, R, e1, fun x F1 H1 A1 V1 N1 => ?_⟩
      cases (show Dq X.K F1 x (.bool true) from V1)
      refine ⟨true, rfl, ?_⟩
      refine iteT ?_
      exact ⟨F1, fm1, v, fm', A1.rel, em, fun y F2 H2 A2 V2 N2 => q y F2 H2 (A1.trans A2) V2 (A1.new N2)⟩
    · rename_i fm1 e1
      cases em
      refine ⟨F, fm, _, _, R, e1, fun x F1 H1 A1 V1 N1 => ?_⟩
      cases (show Dq X.K F1 x (.bool false) from V1)
      refine ⟨false, rfl, ?_⟩
      refine iteF ?_
      exact q _ F1 H1 A1 (.bl false) VNew.dat
    · cases em
theorem se_or {ma mb : ME} (ha : SE X a ma) (hb : SE X (.BoolOp .Or (b :: es) pos) mb) : SE X (.BoolOp .Or (a :: b :: es) pos) (mOrV ma mb) :=
  pe_le (pe_or ha hb) fun σ H Q ⟨F, fm, v, fm', R, em, q⟩ => by
    unfold mOrV at em
    split at em
    · rename_i fm1 e1
      refine ⟨F, fm, _, _, R, e1, fun x F1 H1 A1 V1 N1 => ?_⟩
      cases (show Dq X.K F1 x (.bool false) from V1)
      refine ⟨false, rfl, ?_⟩
      refine iteF ?_
      exact ⟨F1, fm1, v, fm', A1.rel, em, fun y F2 H2 A2 V2 N2 => q y F2 H2 (A1.trans A2) V2 (A1.new N2)⟩
    · rename_i fm1 e1
      cases em
      refine ⟨F, fm, _, _, R, e1, fun x F1 H1 A1 V1 N1 => ?_⟩
      cases (show Dq X.K F1 x (.bool true) from V1)
      refine ⟨true, rfl, ?_⟩
      refine iteT ?_
      exact q _ F1 H1 A1 (.bl true) VNew.dat
    · cases em
theorem se_not {ma : ME} (ha : SE X a ma) : SE X (.UnaryOp .Not a pos) (mNotV ma) :=
  pe_le (pe_not ha) fun σ H Q ⟨F, fm, v, fm', R, em, q⟩ => by
    unfold mNotV at em
    split at em
    · rename_i k fm1 e1
      cases em
      refine ⟨F, fm, _, _, R, e1, fun x F1 H1 A1 V1 N1 => ?_⟩
      cases (show Dq X.K F1 x (.bool k) from V1)
      exact ⟨k, rfl, q _ F1 H1 A1 (.bl _) VNew.dat⟩
    · cases em
def mIfE (mc : MT) (ma mb : ME) : ME := fun fm => match mc fm with
  | some (true, fm1) => ma fm1
  | some (false, fm1) => mb fm1
  | none => none
theorem se_ife {mc : MT} {ma mb : ME} (hc : ST X c mc) (ha : SE X a ma) (hb : SE X b mb) : SE X (.IfExp c a b pos) (mIfE mc ma mb) :=
  pe_le (pe_ifExp hc ha hb) fun σ H Q ⟨F, fm, v, fm', R, em, q⟩ => by
    unfold mIfE at em
    split at em
    · rename_i fm1 e1
      refine ⟨F, fm, _, _, R, e1, fun F1 H1 A1 => ?_⟩
      refine iteT ?_
      exact ⟨F1, fm1, v, fm', A1.rel, em, fun y F2 H2 A2 V2 N2 => q y F2 H2 (A1.trans A2) V2 (A1.new N2)⟩
    · rename_i fm1 e1
      refine ⟨F, fm, _, _, R, e1, fun F1 H1 A1 => ?_⟩
      refine iteF ?_
      exact ⟨F1, fm1, v, fm', A1.rel, em, fun y F2 H2 A2 V2 N2 => q y F2 H2 (A1.trans A2) V2 (A1.new N2)⟩
    · cases em

/-! ### argument lists, displays -/
def mNil : MA := fun fm => some ([], fm)
def mCons (ma : ME) (mr : MA) : MA := fun fm => match ma fm with
  | some (v, fm1) => match mr fm1 with
    | some (vs, fm2) => some (v :: vs, fm2)
    | none => none
  | none => none
theorem sa_nil : SA X [] mNil := pa_le pa_nil fun σ H Q ⟨F, fm, vs, fm', R, em, q⟩ => by
  cases em
  exact q [] F H (Aft.refl R) .nil .nil
theorem sa_cons {ma : ME} {mr : MA} (ha : SE X e ma) (hr : SA X es mr) (hs : starEach (e :: es) X.env = (false, eval e X.env) :: starEach es X.env := by rfl) : SA X (e :: es) (mCons ma mr) :=
  pa_le (pa_cons ha hr hs) fun σ H Q ⟨F, fm, vs, fm', R, em, q⟩ => by
    unfold mCons at em
    split at em
    · rename_i v fm1 e1
      split at em
      · rename_i ws fm2 e2
        cases em
        refine ⟨F, fm, v, fm1, R, e1, fun x F1 H1 A1 V1 N1 => ⟨F1, fm1, ws, _, A1.rel, e2, fun xs F2 H2 A2 V2 N2 => ?_⟩⟩
        refine q (x :: xs) F2 H2 (A1.trans A2) (.cons (A2.val V1) V2 fun c ec j c' ej z => ?_) (.cons N1 (N2.back A1.ext))
        subst ec
        obtain ⟨p, rfl, hf, hc, hl⟩ := V1
        obtain ⟨o, ho⟩ := hc.some'
        have := N2.get ej z p rfl
        rw [ho] at this; cases this
      · cases em
    · cases em
theorem frzAll_ok {K : PySem.W.Frag} {L : Addr → Prop} {F0 H0 : Hp} {σ : L2.St} {H : Hp} : ∀ {vs : List SV} {xs : List V} {F : Hp} {fm fm' : Fm} {ds : List PyData}, Ext L F0 H0 (Live σ fm) F H → Rel K F H σ fm → VsRel K F H σ fm vs xs → VsNew H0 vs xs → frzAll vs fm = some (ds, fm') →
    ∃ F', Ext L F0 H0 (Live σ fm') F' H ∧ Same F F' ∧ Rel K F' H σ fm' ∧ DqAll K F' xs ds ∧ Keeps fm fm'
  | _, _, F, fm, fm', ds, E, R, .nil, _, h => by
    cases h
    exact ⟨F, E, Same.refl _, R, .nil, Keeps.refl _⟩
  | _, _, F, fm, fm', ds, E, R, .cons (v := v) (x := x) (vs := vs) (xs := xs) hv hr hd, .cons hn hnr, h => by
    simp only [frzAll] at h
    split at h
    · rename_i d fm1 e1
      split at h
      · rename_i ds' fm2 e2
        cases h
        obtain ⟨F1, E1, Ea, s1, R1, D1, k1, hnew⟩ := frz_ok E R hv hn e1
        have hr1 : VsRel K F1 H σ fm1 vs xs := by
          clear e2 hnr
          induction hr with
          | nil => exact .nil
          | cons h2 r2 d2 ih =>
            rename_i v2 x2 vs2 xs2
            refine .cons ?_ (ih fun c ec j c' ej => hd c ec (j + 1) c' (by simpa using ej)) d2
            cases v2 with
            | dat d' => exact dp_mono s1 h2
            | bor i =>
              obtain ⟨h3, s, h4⟩ := h2
              exact ⟨h3, k1 i s h4⟩
            | fre c2 =>
              obtain ⟨p, rfl, hf, hc, hl⟩ := h2
              refine ⟨p, rfl, ?_, hc.mono s1 fun _ h => h, fun q => ?_⟩
              · cases q : F1 p with
                | none => rfl
                | some u =>
                  rcases hnew p u q with z | z | ⟨z, c, ec⟩
                  · rw [hf] at z; cases z
                  · exact absurd z hl
                  · exact absurd (by rw [z]; rfl) (hd c ec 0 c2 rfl)
              · rcases Ea.live p q with z | z
                · exact hl z
                · obtain ⟨o, ho⟩ := hc.some'
                  rw [ho] at z; cases z
        obtain ⟨F2, E2, s2, R2, D2, k2⟩ := frzAll_ok E1 R1 hr1 hnr e2
        exact ⟨F2, E2, s1.trans s2, R2, .cons (dp_mono s2 D1) D2, k1.trans k2⟩
      · cases h
    · cases h
/-- the values of a list of expressions, frozen -/
theorem aft_frzAll {K : PySem.W.Frag} {F F1 H H1 : Hp} {σ : L2.St} {fm fm1 fm' : Fm} {vs : List SV} {xs : List V} {ds : List PyData} (A : Aft K σ F H fm F1 H1 fm1) (V : VsRel K F1 H1 σ fm1 vs xs) (N : VsNew H vs xs) (h : frzAll vs fm1 = some (ds, fm')) :
    ∃ F', Aft K σ F H fm F' H1 fm' ∧ DqAll K F' xs ds := by
  obtain ⟨F2, E2, s2, R2, D2, k2⟩ := frzAll_ok A.ext A.rel V N h
  exact ⟨F2, ⟨E2, A.kp.trans k2, R2⟩, D2⟩
def mDisp (mk : List PyData → SV) (m : MA) : ME := fun fm => match m fm with
  | some (vs, fm1) => match frzAll vs fm1 with
    | some (ds, fm2) => if ds.length ≤ sizeLine then some (mk ds, fm2) else none
    | none => none
  | none => none
def mLst : MA → ME := mDisp fun ds => .fre (.lst ds)
def mTup : MA → ME := mDisp fun ds => .dat (.tuple ds)
theorem mDisp_inv {mk : List PyData → SV} {m : MA} {fm fm' : Fm} {v : SV} (h : mDisp mk m fm = some (v, fm')) : ∃ vs fm1 ds, m fm = some (vs, fm1) ∧ frzAll vs fm1 = some (ds, fm') ∧ ds.length ≤ sizeLine ∧ v = mk ds := by
  unfold mDisp at h
  split at h
  · rename_i vs fm1 h1
    split at h
    · rename_i ds fm2 h2
      split at h
      · rename_i hl
        cases h
        exact ⟨vs, fm1, ds, h1, h2, hl, rfl⟩
      · cases h
    · cases h
  · cases h
theorem se_lst {m : MA} (h : SA X es m) : SE X (.List es pos) (mLst m) :=
  pe_le (pe_lst h) fun σ H Q ⟨F, fm, v, fm', R, em, q⟩ => by
    obtain ⟨vs, fm1, ds, e1, e2, hl, rfl⟩ := mDisp_inv em
    refine ⟨F, fm, vs, fm1, R, e1, fun xs F1 H1 A1 V1 N1 => ?_⟩
    obtain ⟨F2, A2, D2⟩ := aft_frzAll A1 V1 N1 e2
    refine ⟨by rw [dpAll_len D2]; exact hl, fun p hp => ?_⟩
    exact q _ F2 _ (A2.trans (Aft.lay A2.rel hp)) (Aft.newL A2.rel hp D2) (VNew.ref (A2.ext.grow p hp))
/-- a new tuple, known as the plain object that it is -/
def rNewP (xs : List V) (H : Hp) (Q : VK) : Prop := ∀ (p : Addr) (o : Obj), H p = none → o.dict = none → Q (.ref p) (upd H p (.frz o (.tup xs)))
theorem inv_newP {pins : List (Addr × Obj)} {σ : L2.St} {H : Hp} {s : Shared} {xs : List V} {its : List Value} {t' : Nat} (I : Inv X pins σ H s) (r : Vals xs its) (hz : xs.length ≤ sizeLine) {o : Obj} (ho : o = { cls := .type "tuple", data := .seq its.toArray }) :
    Inv X pins σ (upd H s.heap.objs.size (.frz o (.tup xs))) { s with heap := s.heap.push o, toks := t' } := by
  subst ho
  refine I.laid (t' := t') (fun b u e => Heap.get?_push_of_some _ e) (Nat.le_refl _) ?_
  exact ⟨Heap.get?_push_size _ rfl, hz, its, r, ⟨_, Heap.get?_push_size _ rfl, rfl, _, rfl⟩⟩
def tTupP (t : TA) : TE := fun σ H Q => t σ H fun xs H1 => xs.length ≤ sizeLine ∧ rNewP xs H1 Q
theorem pe_tupP {t : TA} {x1} (h : PA X es t) : PE X (.Tuple es x1 pos) (tTupP t) := by
  refine ⟨fun pins s σ H Q I hq => ?_⟩
  refine wpAny_Tuple_spliced (thn (h.run pos pins s σ H _ I hq) fun us s1 out => ?_)
  obtain ⟨xs, H1, I1, r, z, q⟩ := out
  exact ⟨by rw [← r.length]; exact z, .ref s1.heap.objs.size, _, inv_newP (t' := s1.toks) I1 r z rfl, rfl, q _ _ (I1.hok.fresh (Nat.le_refl _)) rfl⟩
theorem se_tup {m : MA} {x1} (h : SA X es m) : SE X (.Tuple es x1 pos) (mTup m) :=
  pe_le (pe_tupP h) fun σ H Q ⟨F, fm, v, fm', R, em, q⟩ => by
    obtain ⟨vs, fm1, ds, e1, e2, hl, rfl⟩ := mDisp_inv em
    refine ⟨F, fm, vs, fm1, R, e1, fun xs F1 H1 A1 V1 N1 => ?_⟩
    obtain ⟨F2, A2, D2⟩ := aft_frzAll A1 V1 N1 e2
    refine ⟨by rw [dpAll_len D2]; exact hl, fun p o hp hd => ?_⟩
    exact q _ _ _ (A2.trans (Aft.layF A2.rel hp)) (Aft.newT A2.rel hp hd D2) VNew.dat
end
end Rf

namespace Rf
open PySem L2

/-! ### stores into slots -/
section
variable {K : PySem.W.Frag} {F F' H H' : Hp} {σ σ' : L2.St} {fm fm' : Fm} {x : V} {i : Nat}
theorem get_set {α : Type} {l : List α} {i j : Nat} {a b : α} (h : (l.set i a)[j]? = some b) : (i = j ∧ b = a ∧ i < l.length) ∨ (i ≠ j ∧ l[j]? = some b) := by
  by_cases e : i = j
  · subst e
    have hl : i < l.length := by
      obtain ⟨hl, _⟩ := List.getElem?_eq_some_iff.mp h
      simpa using hl
    rw [List.getElem?_set_self hl] at h
    exact .inl ⟨rfl, (Option.some.inj h).symm, hl⟩
  · rw [List.getElem?_set_ne e] at h
    exact .inr ⟨e, h⟩
theorem Rel.setDat {d : PyData} (R : Rel K F H σ fm) (hd : Dq K F x d) : Rel K F H (σ.set i (some x)) (fm.set i (some (.dat d))) := by
  have hl := R.len
  refine ⟨R.sub, by rw [List.length_set, List.length_set]; exact hl, fun j d' h => ?_, fun j c h => ?_, fun j k c c' p hne h1 h2 h3 => ?_⟩
  · rcases get_set h with ⟨rfl, e, hi⟩ | ⟨ne, h⟩
    · cases e
      exact ⟨x, List.getElem?_set_self (by rw [← hl]; exact hi), hd⟩
    · rw [List.getElem?_set_ne ne]; exact R.dat j d' h
  · rcases get_set h with ⟨rfl, e, hi⟩ | ⟨ne, h⟩
    · cases e
    · rw [List.getElem?_set_ne ne]; exact R.own j c h
  · rcases get_set h1 with ⟨rfl, e, hi⟩ | ⟨ne, h1⟩
    · cases e
    · rcases get_set h2 with ⟨rfl, e, hi⟩ | ⟨ne2, h2⟩
      · cases e
      · rw [List.getElem?_set_ne ne] at h3
        rw [List.getElem?_set_ne ne2]
        exact R.apart j k c c' p hne h1 h2 h3
theorem Rel.setOwn {c : Cell} {p : Addr} (R : Rel K F H σ fm) (hf : F p = none) (hc : CRel K F H p c) (hn : ¬ Live σ fm p) : Rel K F H (σ.set i (some (.ref p))) (fm.set i (some (.own c))) := by
  have hl := R.len
  refine ⟨R.sub, by rw [List.length_set, List.length_set]; exact hl, fun j d' h => ?_, fun j c' h => ?_, fun j k c1 c2 q hne h1 h2 h3 => ?_⟩
  · rcases get_set h with ⟨rfl, e, hi⟩ | ⟨ne, h⟩
    · cases e
    · rw [List.getElem?_set_ne ne]; exact R.dat j d' h
  · rcases get_set h with ⟨rfl, e, hi⟩ | ⟨ne, h⟩
    · cases e
      exact ⟨p, List.getElem?_set_self (by rw [← hl]; exact hi), hf, hc⟩
    · rw [List.getElem?_set_ne ne]; exact R.own j c' h
  · rcases get_set h1 with ⟨rfl, e, hi⟩ | ⟨ne, h1⟩
    · rcases get_set h2 with ⟨rfl, e2, hi2⟩ | ⟨ne2, h2⟩
      · exact absurd rfl hne
      · rw [List.getElem?_set_self (by rw [← hl]; exact hi)] at h3
        cases h3
        rw [List.getElem?_set_ne ne2]
        exact fun z => hn ⟨k, c2, h2, z⟩
    · rw [List.getElem?_set_ne ne] at h3
      rcases get_set h2 with ⟨rfl, e2, hi2⟩ | ⟨ne2, h2⟩
      · rw [List.getElem?_set_self (by rw [← hl]; exact hi2)]
        intro z
        cases z
        exact hn ⟨j, c1, h1, h3⟩
      · rw [List.getElem?_set_ne ne2]
        exact R.apart j k c1 c2 q hne h1 h2 h3
theorem live_setDat {d : PyData} {a : Addr} (h : Live (σ.set i (some x)) (fm.set i (some (.dat d))) a) : Live σ fm a := by
  obtain ⟨j, c, h1, h2⟩ := h
  rcases get_set h1 with ⟨rfl, e, _⟩ | ⟨ne, h1⟩
  · cases e
  · rw [List.getElem?_set_ne ne] at h2
    exact ⟨j, c, h1, h2⟩
theorem live_setOwn {c : Cell} {p a : Addr} (h : Live (σ.set i (some (.ref p))) (fm.set i (some (.own c))) a) : Live σ fm a ∨ a = p := by
  obtain ⟨j, c', h1, h2⟩ := h
  rcases get_set h1 with ⟨rfl, e, _⟩ | ⟨ne, h1⟩
  · rcases get_set h2 with ⟨_, e2, _⟩ | ⟨ne, _⟩
    · cases e2; exact .inr rfl
    · exact absurd rfl ne
  · rw [List.getElem?_set_ne ne] at h2
    exact .inl ⟨j, c', h1, h2⟩
/-- the value v into slot i -/
def sto (i : Nat) (v : SV) (fm : Fm) : Option Fm := match v with
  | .dat d => some (fm.set i (some (.dat d)))
  | .fre c => some (fm.set i (some (.own c)))
  | .bor j => match frz (.bor j) fm with
    | some (d, fm1) => some (fm1.set i (some (.dat d)))
    | none => none
theorem sto_ok {ro : List Nat} {F0 H0 : Hp} {fm0 : Fm} {v : SV} (hi : i ∉ ro) (A : Aft K σ F0 H0 fm0 F H fm) (V : VRel K F H σ fm v x) (N : VNew H0 v x) (h : sto i v fm = some fm') :
    ∃ F', AftS K ro σ F0 H0 fm0 (σ.set i (some x)) F' H fm' := by
  have pin : ∀ j ∈ ro, (σ.set i (some x))[j]? = σ[j]? := fun j hj => List.getElem?_set_ne fun e => hi (by rw [e]; exact hj)
  cases v with
  | dat d =>
    cases h
    exact ⟨F, ⟨A.ext.same, A.ext.keep, A.ext.new, fun a q => A.ext.live a (live_setDat q), A.ext.grow⟩, A.rel.setDat V, pin⟩
  | fre c =>
    cases h
    obtain ⟨p, rfl, hf, hc, hn⟩ := V
    refine ⟨F, ⟨A.ext.same, A.ext.keep, A.ext.new, fun a q => ?_, A.ext.grow⟩, A.rel.setOwn hf hc hn, pin⟩
    rcases live_setOwn q with q | rfl
    · exact A.ext.live a q
    · exact .inr (N _ rfl)
  | bor j =>
    simp only [sto] at h
    split at h
    · rename_i d fm1 e1
      cases h
      obtain ⟨F1, E1, Ea, s1, R1, D1, k1, hnew⟩ := frz_ok A.ext A.rel V N e1
      exact ⟨F1, ⟨E1.same, E1.keep, E1.new, fun a q => E1.live a (live_setDat q), E1.grow⟩, R1.setDat D1, pin⟩
    · cases h
end

/-! ### targets: data into names -/
/-- how an item of a walk stands for data: Dq; or a tuple of which no more is known -/
abbrev RLT := Hp → V → PyData → Prop
def Dw (K : PySem.W.Frag) : RLT := fun F v d => Dq K F v d ∨ ∃ a xs ds, v = .ref a ∧ d = .tuple ds ∧ SqT K F a xs ∧ DqAll K F xs ds
def RMon (Rl : RLT) : Prop := ∀ F F' v d, Same F F' → Rl F v d → Rl F' v d
theorem rmon_q {K : PySem.W.Frag} : RMon (Dq K) := fun _ _ _ _ s h => dp_mono s h
theorem rmon_w {K : PySem.W.Frag} : RMon (Dw K) := fun _ _ _ _ s h => h.elim (fun h => .inl (dp_mono s h)) fun ⟨a, xs, ds, h1, h2, h3, h4⟩ => .inr ⟨a, xs, ds, h1, h2, sqT_mono s h3, dpAll_mono s h4⟩
abbrev MG := PyData → Fm → Option Fm
def tG (K : PySem.W.Frag) (Rl : RLT) (ro : List Nat) (m : MG) : TG := fun x σ H Q => ∃ F fm d fm', Rel K F H σ fm ∧ Rl F x d ∧ m d fm = some fm' ∧ ∀ σ' F' H', AftS K ro σ F H fm σ' F' H' fm' → Q σ' H'
def SG (X : Cx) (Rl : RLT) (ro : List Nat) (tg : Expr) (m : MG) : Prop := PG X tg (tG X.K Rl ro m)
abbrev MGs := List PyData → Fm → Option Fm
def tGs (K : PySem.W.Frag) (ro : List Nat) (m : MGs) : TGs := fun xs σ H Q => ∃ F fm ds fm', Rel K F H σ fm ∧ DqAll K F xs ds ∧ m ds fm = some fm' ∧ ∀ σ' F' H', AftS K ro σ F H fm σ' F' H' fm' → Q σ' H'
def SGs (X : Cx) (ro : List Nat) (tgs : List Expr) (m : MGs) : Prop := PGs X tgs (tGs X.K ro m)
section
variable {X : Cx} {e a b c tg : Expr} {es : List Expr} {pos p1 p2 : Pos} {st : Stmt} {sts : List Stmt} {ro : List Nat}
theorem pg_le {t t' : TG} (h : PG X tg t) (k : ∀ x σ H Q, t' x σ H Q → t x σ H Q) : PG X tg t' := ⟨fun pins s σ H v u Q I r q => h.run pins s σ H v u Q I r (k v σ H Q q)⟩
theorem pgs_le {t t' : TGs} (h : PGs X es t) (k : ∀ x σ H Q, t' x σ H Q → t x σ H Q) : PGs X es t' := ⟨fun pins s σ H v u Q I r q => h.run pins s σ H v u Q I r (k v σ H Q q)⟩
theorem sg_weak {m : MG} (h : SG X (Dw X.K) ro tg m) : SG X (Dq X.K) ro tg m := pg_le h fun x σ H Q ⟨F, fm, d, fm', R, D, em, q⟩ => ⟨F, fm, d, fm', R, .inl D, em, q⟩
def gSet (i : Nat) : MG := fun d fm => some (fm.set i (some (.dat d)))
theorem sg_name {i : Nat} {x : Str} (hN : X.N.Nodup) (hro : i ∉ ro) (hi : X.N[i]? = some x) (hx : Loc X.env.scope x) (hf : X.fn x = true ∨ X.env.scope.names.lookup x = some .local) : SG X (Dq X.K) ro (.Name x pos) (gSet i) :=
  pg_le (pg_name hN hi hx hf) fun x σ H Q ⟨F, fm, d, fm', R, D, em, q⟩ => by
    cases em
    obtain ⟨F', A⟩ := sto_ok (v := .dat d) hro (Aft.refl R) D VNew.dat rfl
    exact q _ F' H A
def gsNil : MGs := fun ds fm => match ds with
  | [] => some fm
  | _ => none
def gsCons (g : MG) (r : MGs) : MGs := fun ds fm => match ds with
  | d :: ds => match g d fm with
    | some fm1 => r ds fm1
    | none => none
  | [] => none
theorem sgs_nil : SGs X ro [] gsNil := pgs_le pgs_nil fun xs σ H Q ⟨F, fm, ds, fm', R, D, em, q⟩ => by
  cases D with
  | nil =>
    cases em
    exact ⟨rfl, q σ F H (AftS.refl R)⟩
  | cons _ _ => cases em
theorem sgs_cons {g : MG} {r : MGs} (h1 : SG X (Dq X.K) ro e g) (h2 : SGs X ro es r) (hs : (assignEach (e :: es) X.env).map (·.2) = assign e X.env :: (assignEach es X.env).map (·.2) := by rfl) : SGs X ro (e :: es) (gsCons g r) :=
  pgs_le (pgs_cons h1 h2 hs) fun xs σ H Q ⟨F, fm, ds, fm', R, D, em, q⟩ => by
    cases D with
    | nil => cases em
    | cons D1 D2 =>
      simp only [gsCons] at em
      split at em
      · rename_i fm1 e1
        refine ⟨_, _, rfl, F, fm, _, fm1, R, D1, e1, fun σ1 F1 H1 A1 => ⟨F1, fm1, _, fm', A1.rel, dpAll_mono A1.ext.same D2, em, fun σ2 F2 H2 A2 => q σ2 F2 H2 (A1.trans A2)⟩⟩
      · cases em
def gTupD (n : Nat) (r : MGs) : MG := fun d fm => match d with
  | .tuple ds => if ds.length = n then r ds fm else none
  | _ => none
theorem Dw.tup {K : PySem.W.Frag} {F : Hp} {x : V} {ds : List PyData} (h : Dw K F x (.tuple ds)) : ∃ a xs, x = .ref a ∧ SqT K F a xs ∧ DqAll K F xs ds := by
  rcases h with h | ⟨a, xs, ds', rfl, e, h1, h2⟩
  · cases h with
    | tup s r => exact ⟨_, _, rfl, s.1, r⟩
  · cases e; exact ⟨a, xs, rfl, h1, h2⟩
theorem sg_tup {k : Nat} {r : MGs} {n : Nat} (hc : X.calm = true) (h : SGs X ro es r) (hn : (assignEach es X.env).length = n := by rfl) (hst : (assignEach es X.env).findIdx? (·.1) = none := by rfl) : SG X (Dw X.K) ro (.Tuple es k pos) (gTupD n r) :=
  pg_le (pg_tup hc h hn hst) fun x σ H Q ⟨F, fm, d, fm', R, D, em, q⟩ => by
    unfold gTupD at em
    split at em
    · rename_i ds
      split at em
      · rename_i hl
        obtain ⟨a, xs, rfl, s, r⟩ := D.tup
        exact ⟨_, _, rfl, sqT_mono R.sub s, (dpAll_len r).trans hl, F, fm, ds, fm', R, r, em, q⟩
      · cases em
    · cases em

/-! ### statements -/
def mSet (i : Nat) (m : ME) : MS := fun fm => match m fm with
  | some (v, fm1) => match sto i v fm1 with
    | some fm2 => some (.nx, fm2)
    | none => none
  | none => none
theorem tS_set {K : PySem.W.Frag} {i : Nat} {m : ME} (hro : i ∉ ro) {D : Ends} {σ : L2.St} {H : Hp} (h : tS K ro (mSet i m) D σ H) : tAsg (tE K m) (gName i) D σ H := by
  obtain ⟨F, fm, fl, fm', R, em, q⟩ := h
  unfold mSet at em
  split at em
  · rename_i v fm1 e1
    split at em
    · rename_i fm2 e2
      cases em
      refine ⟨F, fm, v, fm1, R, e1, fun x F1 H1 A1 V1 N1 => ?_⟩
      obtain ⟨F2, A2⟩ := sto_ok hro A1 V1 N1 e2
      exact q _ F2 H1 A2
    · cases em
  · cases em
theorem ss_set {i : Nat} {x : Str} {m : ME} {pos' : Pos} (hN : X.N.Nodup) (hro : i ∉ ro) (hi : X.N[i]? = some x) (hx : Loc X.env.scope x) (he : SE X e m) (hs : swapsWith e (some (.Name x pos')) pos.line X.env = pure false)
    (hf : X.fn x = true ∨ X.env.scope.names.lookup x = some .local) : SS X ro (.Assign [.Name x pos'] e pos) (mSet i m) :=
  ps_le (ps_set hN hi hx he hs hf) fun D σ H h => tS_set hro h
/-- a target = e, the value frozen -/
def mAsg (g : MG) (m : ME) : MS := fun fm => match m fm with
  | some (v, fm1) => match frz v fm1 with
    | some (d, fm2) => match g d fm2 with
      | some fm3 => some (.nx, fm3)
      | none => none
    | none => none
  | none => none
theorem ss_asg {g : MG} {m : ME} (he : SE X e m) (hg : SG X (Dq X.K) ro tg g) (hs : swapsWithSole [tg] e pos.line X.env = pure false) (hw : swappedStores [tg] e X.env = pure none)
    (h1 : (assignEach [tg] X.env).map (·.2) = [assign tg X.env] := by rfl) : SS X ro (.Assign [tg] e pos) (mAsg g m) :=
  ps_le (ps_asg he hg hs hw h1) fun D σ H ⟨F, fm, fl, fm', R, em, q⟩ => by
    unfold mAsg at em
    split at em
    · rename_i v fm1 e1
      split at em
      · rename_i d fm2 e2
        split at em
        · rename_i fm3 e3
          cases em
          refine ⟨F, fm, v, fm1, R, e1, fun x F1 H1 A1 V1 N1 => ?_⟩
          obtain ⟨F2, E2, Ea, s2, R2, D2, k2, hnew⟩ := frz_ok A1.ext A1.rel V1 N1 e2
          refine ⟨F2, fm2, d, _, R2, D2, e3, fun σ3 F3 H3 A3 => q σ3 F3 H3 ?_⟩
          exact AftS.trans ⟨E2, R2, fun _ _ => rfl⟩ A3
        · cases em
      · cases em
    · cases em
end

/-! ### several values at once -/
section
variable {K : PySem.W.Frag} {F F' F1 H H' : Hp} {σ σ' : L2.St} {fm fm' fm1 : Fm} {x : V} {i : Nat} {ro : List Nat}
def res1 : SV → Fm → Option (SV × Fm)
  | .bor j, fm => match frz (.bor j) fm with
    | some (d, fm1) => some (.dat d, fm1)
    | none => none
  | .dat d, fm => some (.dat d, fm)
  | .fre c, fm => some (.fre c, fm)
def resAll : List SV → Fm → Option (List SV × Fm)
  | [], fm => some ([], fm)
  | v :: vs, fm => match res1 v fm with
    | some (w, fm1) => match resAll vs fm1 with
      | some (ws, fm2) => some (w :: ws, fm2)
      | none => none
    | none => none
theorem VsRel.frz (s1 : Same F F1) (k1 : Keeps fm fm1) (hnew : ∀ a o, F1 a = some o → F a = some o ∨ Live σ fm a) (hlive : ∀ a, Live σ fm1 a → Live σ fm a) : ∀ {vs : List SV} {xs : List V}, VsRel K F H σ fm vs xs → VsRel K F1 H σ fm1 vs xs
  | _, _, .nil => .nil
  | _, _, .cons (v := v2) h2 r2 d2 => by
    refine .cons ?_ (VsRel.frz s1 k1 hnew hlive r2) d2
    cases v2 with
    | dat d' => exact dp_mono s1 h2
    | bor i =>
      obtain ⟨h3, s, h4⟩ := h2
      exact ⟨h3, k1 i s h4⟩
    | fre c2 =>
      obtain ⟨p, rfl, hf, hc, hl⟩ := h2
      refine ⟨p, rfl, ?_, hc.mono s1 fun _ h => h, fun q => hl (hlive p q)⟩
      cases q : F1 p with
      | none => rfl
      | some u =>
        rcases hnew p u q with z | z
        · rw [hf] at z; cases z
        · exact absurd z hl
theorem resAll_ok {F0 H0 : Hp} {fm0 : Fm} : ∀ {vs ws : List SV} {xs : List V} {F : Hp} {fm fm' : Fm}, Aft K σ F0 H0 fm0 F H fm → VsRel K F H σ fm vs xs → VsNew H0 vs xs → resAll vs fm = some (ws, fm') →
    ∃ F', Aft K σ F0 H0 fm0 F' H fm' ∧ Same F F' ∧ Keeps fm fm' ∧ (∀ a o, F' a = some o → F a = some o ∨ Live σ fm a) ∧ (∀ a, Live σ fm' a → Live σ fm a) ∧ VsRel K F' H σ fm' ws xs ∧ VsNew H0 ws xs ∧ ∀ j, SV.bor j ∉ ws
  | _, _, _, F, fm, fm', A, .nil, _, h => by
    cases h
    exact ⟨F, A, Same.refl _, Keeps.refl _, fun _ _ h => .inl h, fun _ h => h, .nil, .nil, by simp⟩
  | _, ws, _, F, fm, fm', A, .cons (v := v) (x := x) (vs := vs) (xs := xs) hv hr hd, .cons hn hnr, h => by
    simp only [resAll] at h
    split at h
    · rename_i w fm1 e1
      split at h
      · rename_i ws' fm2 e2
        cases h
        cases v with
        | bor j =>
          simp only [res1] at e1
          split at e1
          · rename_i d fm3 e3
            cases e1
            obtain ⟨F1, E1, Ea, s1, R1, D1, k1, hnew⟩ := frz_ok A.ext A.rel hv hn e3
            have hnew' : ∀ a o, F1 a = some o → F a = some o ∨ Live σ fm a := fun a o q => by
              rcases hnew a o q with z | z | ⟨_, c, ec⟩
              · exact .inl z
              · exact .inr z
              · cases ec
            have hlv : ∀ a, Live σ fm1 a → Live σ fm a := fun a q => by
              rcases Ea.live a q with z | z
              · exact z
              · obtain ⟨i, c, h1, h2⟩ := q
                obtain ⟨p, h3, _, h4⟩ := R1.own i c h1
                rw [h2] at h3; cases h3
                obtain ⟨o, ho⟩ := h4.some'
                rw [ho] at z; cases z
            obtain ⟨F2, A2, s2, k2, n2, l2, V2, N2, b2⟩ := resAll_ok ⟨E1, A.kp.trans k1, R1⟩ (VsRel.frz s1 k1 hnew' hlv hr) hnr e2
            refine ⟨F2, A2, s1.trans s2, k1.trans k2, fun a o q => ?_, fun a q => hlv a (l2 a q), .cons (dp_mono s2 D1) V2 (fun c ec => by cases ec), .cons VNew.dat N2, fun j => ?_⟩
            · rcases n2 a o q with z | z
              · exact hnew' a o z
              · exact .inr (hlv a z)
            · simp only [List.mem_cons, not_or]
              exact ⟨(fun z => by cases z), b2 j⟩
          · cases e1
        | dat d =>
          cases e1
          obtain ⟨F2, A2, s2, k2, n2, l2, V2, N2, b2⟩ := resAll_ok A hr hnr e2
          refine ⟨F2, A2, s2, k2, n2, l2, .cons (dp_mono s2 hv) V2 fun c ec => (by cases ec), .cons VNew.dat N2, fun j => ?_⟩
          simp only [List.mem_cons, not_or]
          exact ⟨(fun z => by cases z), b2 j⟩
        | fre c =>
          cases e1
          obtain ⟨F2, A2, s2, k2, n2, l2, V2, N2, b2⟩ := resAll_ok A hr hnr e2
          have hv2 : VRel K F2 H σ fm' (.fre c) x := by
            cases VsRel.frz (vs := [.fre c]) (xs := [x]) s2 k2 n2 l2 (.cons hv .nil fun c ec j c' ej => by simp at ej) with
            | cons h _ _ => exact h
          refine ⟨F2, A2, s2, k2, n2, l2, .cons hv2 V2 fun c1 ec j c' ej => ?_, .cons hn N2, fun j => ?_⟩
          · -- the new ones of ws' stood so in vs
            have : ∀ {vs ws : List SV} {fm fm' : Fm}, resAll vs fm = some (ws, fm') → ∀ (j : Nat) (c : Cell), ws[j]? = some (.fre c) → vs[j]? = some (.fre c) := by
              intro vs
              induction vs with
              | nil => intro ws fm fm' h j c e; cases h; simp at e
              | cons v vs ih =>
                intro ws fm fm' h j c e
                simp only [resAll] at h
                split at h
                · rename_i w fm1 e1
                  split at h
                  · rename_i ws' fm2 e2
                    cases h
                    cases j with
                    | zero =>
                      simp at e
                      subst e
                      cases v with
                      | bor k => simp only [res1] at e1; split at e1 <;> cases e1
                      | dat d => cases e1
                      | fre c' => cases e1; rfl
                    | succ j => simpa using ih e2 j c (by simpa using e)
                  · cases h
                · cases h
            exact hd c rfl j c' (this e2 j c' ej)
          · simp only [List.mem_cons, not_or]
            exact ⟨(fun z => by cases z), b2 j⟩
      · cases h
    · cases h
theorem sto_ok2 {σ0 : L2.St} {F0 H0 : Hp} {fm0 : Fm} {v : SV} (hi : i ∉ ro) (A : AftS K ro σ0 F0 H0 fm0 σ F H fm) (V : VRel K F H σ fm v x) (N : VNew H0 v x) (hb : ∀ j, v ≠ .bor j) (h : sto i v fm = some fm') :
    AftS K ro σ0 F0 H0 fm0 (σ.set i (some x)) F H fm' := by
  have pin : ∀ j ∈ ro, (σ.set i (some x))[j]? = σ0[j]? := fun j hj => (List.getElem?_set_ne fun e => hi (by rw [e]; exact hj)).trans (A.pin j hj)
  cases v with
  | dat d =>
    cases h
    exact ⟨⟨A.ext.same, A.ext.keep, A.ext.new, fun a q => A.ext.live a (live_setDat q), A.ext.grow⟩, A.rel.setDat V, pin⟩
  | fre c =>
    cases h
    obtain ⟨p, rfl, hf, hc, hn⟩ := V
    refine ⟨⟨A.ext.same, A.ext.keep, A.ext.new, fun a q => ?_, A.ext.grow⟩, A.rel.setOwn hf hc hn, pin⟩
    rcases live_setOwn q with q | rfl
    · exact A.ext.live a q
    · exact .inr (N _ rfl)
  | bor j => exact absurd rfl (hb j)
def stoAll : List Nat → List SV → Fm → Option Fm
  | [], [], fm => some fm
  | i :: is, v :: vs, fm => match sto i v fm with
    | some fm1 => stoAll is vs fm1
    | none => none
  | _, _, _ => none
def setAll (σ : L2.St) : List Nat → List V → L2.St
  | i :: is, x :: xs => setAll (σ.set i (some x)) is xs
  | _, _ => σ
theorem val_sto {v w : SV} {y : V} (V : VRel K F H σ fm v x) (h : sto i v fm = some fm') (hb : ∀ j, v ≠ .bor j) (hw : ∀ j, w ≠ .bor j) (W : VRel K F H σ fm w y) (hd : ∀ c, v = .fre c → ∀ c', w = .fre c' → y ≠ x) : VRel K F H (σ.set i (some x)) fm' w y := by
  cases w with
  | bor j => exact absurd rfl (hw j)
  | dat d => exact W
  | fre c =>
    obtain ⟨p, rfl, hf, hc, hn⟩ := W
    refine ⟨p, rfl, hf, hc, fun z => ?_⟩
    cases v with
    | dat d => cases h; exact hn (live_setDat z)
    | bor j => exact absurd rfl (hb j)
    | fre c' =>
      cases h
      obtain ⟨p', rfl, _⟩ := V
      rcases live_setOwn z with z | z
      · exact hn z
      · exact hd _ rfl _ rfl (by rw [z])
theorem vals_sto {v : SV} (hV : VRel K F H σ fm v x) (h : sto i v fm = some fm') (hb : ∀ j, v ≠ .bor j) : ∀ {ws : List SV} {ys : List V}, (∀ j, SV.bor j ∉ ws) → VsRel K F H σ fm ws ys → (∀ c, v = .fre c → ∀ (j : Nat) (c' : Cell), ws[j]? = some (.fre c') → ys[j]? ≠ some x) → VsRel K F H (σ.set i (some x)) fm' ws ys
  | _, _, _, .nil, _ => .nil
  | _, _, hw, .cons W r d, hd => by
    refine .cons (val_sto hV h hb (fun j e => hw j (by rw [e]; exact List.mem_cons_self)) W fun c ec c' ec' ey => ?_) (vals_sto hV h hb (fun j z => hw j (List.mem_cons_of_mem _ z)) r fun c ec j c' ej => hd c ec (j + 1) c' (by simpa using ej)) d
    exact hd c ec 0 c' (by rw [ec']; rfl) (by rw [ey]; rfl)
theorem stoAll_ok {σ0 : L2.St} {F0 H0 : Hp} {fm0 : Fm} : ∀ {is : List Nat} {vs : List SV} {xs : List V} {σ : L2.St} {fm fm' : Fm}, (∀ i ∈ is, i ∉ ro) → AftS K ro σ0 F0 H0 fm0 σ F H fm → VsRel K F H σ fm vs xs → VsNew H0 vs xs → (∀ j, SV.bor j ∉ vs) → stoAll is vs fm = some fm' →
    AftS K ro σ0 F0 H0 fm0 (setAll σ is xs) F H fm' ∧ is.length = xs.length
  | [], _, _, σ, fm, fm', hi, A, .nil, _, _, h => by cases h; exact ⟨A, rfl⟩
  | [], _, _, σ, fm, fm', hi, A, .cons _ _ _, _, _, h => by cases h
  | i :: is, _, _, σ, fm, fm', hi, A, .nil, _, _, h => by cases h
  | i :: is, _, _, σ, fm, fm', hi, A, .cons (v := v) hv hr hd, .cons hn hnr, hb, h => by
    simp only [stoAll] at h
    split at h
    · rename_i fm1 e1
      have hbv : ∀ j, v ≠ .bor j := fun j e => hb j (by rw [e]; exact List.mem_cons_self)
      have hbr : ∀ j, SV.bor j ∉ _ := fun j z => hb j (List.mem_cons_of_mem _ z)
      have A1 := sto_ok2 (hi i List.mem_cons_self) A hv hn hbv e1
      obtain ⟨A2, hl⟩ := stoAll_ok (fun j hj => hi j (List.mem_cons_of_mem _ hj)) A1 (vals_sto hv e1 hbv hbr hr hd) hnr hbr h
      exact ⟨A2, by simp [hl]⟩
    · cases h
end

section
variable {X : Cx} {e a b c tg : Expr} {es : List Expr} {pos p1 p2 : Pos} {st : Stmt} {sts : List Stmt} {ro : List Nat}
def mPar (is : List Nat) (m : MA) : MS := fun fm => match m fm with
  | some (vs, fm1) => match resAll vs fm1 with
    | some (ws, fm2) => match stoAll is ws fm2 with
      | some fm3 => some (.nx, fm3)
      | none => none
    | none => none
  | none => none
theorem tS_par {K : PySem.W.Frag} {is : List Nat} {m : MA} (hro : ∀ i ∈ is, i ∉ ro) {D : Ends} {σ : L2.St} {H : Hp} (h : tS K ro (mPar is m) D σ H) : tA K m σ H fun xs H1 => is.length = xs.length ∧ D.nx (setAll σ is xs) H1 := by
  obtain ⟨F, fm, fl, fm', R, em, q⟩ := h
  unfold mPar at em
  split at em
  · rename_i vs fm1 e1
    split at em
    · rename_i ws fm2 e2
      split at em
      · rename_i fm3 e3
        cases em
        refine ⟨F, fm, vs, fm1, R, e1, fun xs F1 H1 A1 V1 N1 => ?_⟩
        obtain ⟨F2, A2, s2, k2, n2, l2, V2, N2, b2⟩ := resAll_ok A1 V1 N1 e2
        obtain ⟨A3, hl⟩ := stoAll_ok hro A2.s V2 N2 b2 e3
        exact ⟨hl, q _ F2 H1 A3⟩
      · cases em
    · cases em
  · cases em
theorem ss_par2 {i j : Nat} {x y : Str} {m : MA} {px py pt : Pos} {kt k2 pt2} (hc : X.calm = true) (hN : X.N.Nodup) (hi : X.N[i]? = some x) (hj : X.N[j]? = some y) (hij : i ≠ j)
    (hx : X.env.scope.names.lookup x = some .local) (hy : X.env.scope.names.lookup y = some .local) (hro : ∀ k ∈ [i, j], k ∉ ro) (ha : SA X [a, b] m)
    (hw : swappedStores [.Tuple [.Name x px, .Name y py] kt pt] (.Tuple [a, b] k2 pt2) X.env = pure (some [x, y]))
    (hs : swapsWithSole [.Tuple [.Name x px, .Name y py] kt pt] (.Tuple [a, b] k2 pt2) pos.line X.env = pure false) :
    SS X ro (.Assign [.Tuple [.Name x px, .Name y py] kt pt] (.Tuple [a, b] k2 pt2) pos) (mPar [i, j] m) :=
  ps_le (ps_par hc hN hi hj hij hx hy ha hw hs) fun D σ H h => by
    obtain ⟨F, fm, vs, fm', R, em, q⟩ := tS_par hro h
    refine ⟨F, fm, vs, fm', R, em, fun xs F' H' A V N => ?_⟩
    obtain ⟨hl, hq⟩ := q xs F' H' A V N
    match xs, hl with
    | [v, w], _ => exact ⟨v, w, rfl, hq⟩
theorem ss_par3 {i j l : Nat} {x y z : Str} {m : MA} {px py pz pt : Pos} {kt k2 pt2} (hc : X.calm = true) (hN : X.N.Nodup) (hi : X.N[i]? = some x) (hj : X.N[j]? = some y) (hl : X.N[l]? = some z) (hij : i ≠ j) (hil : i ≠ l) (hjl : j ≠ l)
    (hx : X.env.scope.names.lookup x = some .local) (hy : X.env.scope.names.lookup y = some .local) (hz : X.env.scope.names.lookup z = some .local) (hro : ∀ k ∈ [i, j, l], k ∉ ro) (ha : SA X [a, b, c] m)
    (hw : swappedStores [.Tuple [.Name x px, .Name y py, .Name z pz] kt pt] (.Tuple [a, b, c] k2 pt2) X.env = pure (some [x, y, z]))
    (hs : swapsWithSole [.Tuple [.Name x px, .Name y py, .Name z pz] kt pt] (.Tuple [a, b, c] k2 pt2) pos.line X.env = pure false) :
    SS X ro (.Assign [.Tuple [.Name x px, .Name y py, .Name z pz] kt pt] (.Tuple [a, b, c] k2 pt2) pos) (mPar [i, j, l] m) :=
  ps_le (ps_par3 hc hN hi hj hl hij hil hjl hx hy hz ha hw hs) fun D σ H h => by
    obtain ⟨F, fm, vs, fm', R, em, q⟩ := tS_par hro h
    refine ⟨F, fm, vs, fm', R, em, fun xs F' H' A V N => ?_⟩
    obtain ⟨hl, hq⟩ := q xs F' H' A V N
    match xs, hl with
    | [u, v, w], _ => exact ⟨u, v, w, rfl, hq⟩
def mExpr (m : ME) : MS := fun fm => match m fm with
  | some (_, fm1) => some (.nx, fm1)
  | none => none
theorem ss_expr {m : ME} (he : SE X e m) (hs : swapsWith e none pos.line X.env = pure false) : SS X ro (.Expr e pos) (mExpr m) :=
  ps_le (ps_expr he hs) fun D σ H ⟨F, fm, fl, fm', R, em, q⟩ => by
    unfold mExpr at em
    split at em
    · rename_i v fm1 e1
      cases em
      exact ⟨F, fm, v, _, R, e1, fun x F1 H1 A1 V1 N1 => q σ F1 H1 A1.s⟩
    · cases em
def mRet (m : ME) : MS := fun fm => match m fm with
  | some (v, fm1) => some (.rt v, fm1)
  | none => none
theorem ss_ret {m : ME} (he : SE X e m) : SS X ro (.Return (some e) pos) (mRet m) :=
  ps_le (ps_ret he) fun D σ H ⟨F, fm, fl, fm', R, em, q⟩ => by
    unfold mRet at em
    split at em
    · rename_i v fm1 e1
      cases em
      exact ⟨F, fm, v, _, R, e1, fun x F1 H1 A1 V1 N1 => q σ F1 H1 A1.s x V1 N1⟩
    · cases em
def mRetN : MS := fun fm => some (.rt (.dat .none), fm)
theorem ss_retN : SS X ro (.Return none pos) mRetN := ps_le ps_retN fun D σ H ⟨F, fm, fl, fm', R, em, q⟩ => by
  cases em
  exact q σ F H (AftS.refl R) .non .non VNew.dat
def mNext : MS := fun fm => some (.nx, fm)
theorem ss_pass : SS X ro (.Pass pos) mNext := ps_le ps_pass fun D σ H ⟨F, fm, fl, fm', R, em, q⟩ => by
  cases em; exact q σ F H (AftS.refl R)
def mBreak : MS := fun fm => some (.bk, fm)
theorem ss_break : SS X ro (.Break pos) mBreak := ps_le ps_break fun D σ H ⟨F, fm, fl, fm', R, em, q⟩ => by
  cases em; exact q σ F H (AftS.refl R)
def mCont : MS := fun fm => some (.ct, fm)
theorem ss_cont : SS X ro (.Continue pos) mCont := ps_le ps_continue fun D σ H ⟨F, fm, fl, fm', R, em, q⟩ => by
  cases em; exact q σ F H (AftS.refl R)
theorem sss_nil : SSs X ro [] mNext := pss_le pss_nil fun D σ H ⟨F, fm, fl, fm', R, em, q⟩ => by
  cases em; exact q σ F H (AftS.refl R)
theorem sss_one {m : MS} (h : SS X ro st m) : SSs X ro [st] m := pss_one h
def mSeq (m n : MS) : MS := fun fm => match m fm with
  | some (.nx, fm1) => n fm1
  | r => r
/-- what comes behind a state -/
theorem tS_go {K : PySem.W.Frag} {n : MS} {D : Ends} {σ σ1 : L2.St} {F H F1 H1 : Hp} {fm fm1 fm' : Fm} {fl : Fl} (A : AftS K ro σ F H fm σ1 F1 H1 fm1) (em : n fm1 = some (fl, fm')) (q : ∀ σ' F' H', AftS K ro σ F H fm σ' F' H' fm' → Out K D H F' H' σ' fm' fl) : tS K ro n D σ1 H1 := by
  refine ⟨F1, fm1, fl, fm', A.rel, em, fun σ' F' H' A' => ?_⟩
  have z := q σ' F' H' (A.trans A')
  cases fl with
  | nx => exact z
  | bk => exact z
  | ct => exact z
  | rt v => exact fun x V N => z x V (N.back A.ext)
theorem sss_cons {m n : MS} (h1 : SS X ro st m) (h2 : SSs X ro sts n) : SSs X ro (st :: sts) (mSeq m n) :=
  pss_le (pss_cons h1 h2) fun D σ H ⟨F, fm, fl, fm', R, em, q⟩ => by
    unfold mSeq at em
    split at em
    · rename_i fm1 e1
      exact ⟨F, fm, .nx, fm1, R, e1, fun σ1 F1 H1 A1 => tS_go A1 em q⟩
    · rename_i r hr
      refine ⟨F, fm, fl, fm', R, em, fun σ' F' H' A => ?_⟩
      have z := q σ' F' H' A
      cases fl with
      | nx => exact absurd em (hr fm')
      | bk => exact z
      | ct => exact z
      | rt v => exact z
def mIf (c : MT) (m n : MS) : MS := fun fm => match c fm with
  | some (true, fm1) => m fm1
  | some (false, fm1) => n fm1
  | none => none
theorem ss_if {mc : MT} {m n : MS} {as bs : List Stmt} (hc : ST X c mc) (ha : SSs X ro as m) (hb : SSs X ro bs n) : SS X ro (.If c as bs pos) (mIf mc m n) :=
  ps_le (ps_if hc ha hb) fun D σ H ⟨F, fm, fl, fm', R, em, q⟩ => by
    unfold mIf at em
    split at em
    · rename_i fm1 e1
      refine ⟨F, fm, true, fm1, R, e1, fun F1 H1 A1 => iteT (tS_go A1.s em q)⟩
    · rename_i fm1 e1
      refine ⟨F, fm, false, fm1, R, e1, fun F1 H1 A1 => iteF (tS_go A1.s em q)⟩
    · cases em
end
end Rf

namespace Rf
open PySem L2

/-! ### walks -/
section
variable {K : PySem.W.Frag} {F F' F1 H H' H1 : Hp} {σ σ' σ2 : L2.St} {fm fm' fm1 fm2 : Fm} {x : V}
/-- new, frozen objects -/
structure Grow (F H F' H' : Hp) : Prop where
  same : Same F F'
  keep : Same H H'
  sub : Same F' H'
  new : ∀ a o, F' a = some o → F a = some o ∨ H a = none
theorem Grow.refl (s : Same F H) : Grow F H F H := ⟨Same.refl _, Same.refl _, s, fun _ _ h => .inl h⟩
theorem Grow.one {p : Addr} {o : HO} (s : Same F H) (hp : H p = none) : Grow F H (upd F p o) (upd H p o) :=
  ⟨Same.upd' (s.free hp), Same.upd' hp, fun b u e => by
    by_cases z : b = p
    · subst z; rw [upd_same] at e ⊢; exact e
    · rw [upd_ne z] at e ⊢; exact s b u e, fun b u e => by
    by_cases z : b = p
    · subst z; exact .inr hp
    · rw [upd_ne z] at e; exact .inl e⟩
theorem Grow.rel (g : Grow F H F' H') (R : Rel K F H σ fm) : Rel K F' H' σ fm :=
  ⟨g.sub, R.len, fun i d h => by
    obtain ⟨v, h1, h2⟩ := R.dat i d h
    exact ⟨v, h1, dp_mono g.same h2⟩, fun i c h => by
    obtain ⟨p, h1, h2, h3⟩ := R.own i c h
    obtain ⟨o, ho⟩ := h3.some'
    refine ⟨p, h1, ?_, h3.mono g.same fun u h => g.keep p u h⟩
    cases q : F' p with
    | none => rfl
    | some u =>
      rcases g.new p u q with z | z
      · rw [h2] at z; cases z
      · rw [ho] at z; (cases z), R.apart⟩
theorem Grow.aft (g : Grow F H F' H') (R : Rel K F H σ fm) : Aft K σ F H fm F' H' fm :=
  ⟨⟨g.same, fun a o _ h => g.keep a o h, fun a o h => (g.new a o h).elim .inl fun z => .inr (.inl z), fun _ h => .inl h, fun a h => g.keep.free h⟩, Keeps.refl _, g.rel R⟩
structure ItOk (Rl : RLT) (F : Hp) (J : It) (ds : List PyData) : Prop where
  go : ∀ i H, Same F H → i < ds.length → J.go i H
  stop : ∀ H, Same F H → J.stop ds.length H
  yld : ∀ (i : Nat) (d : PyData) (Fc H : Hp) (x : V) (H' : Hp), ds[i]? = some d → Same F Fc → Same Fc H → J.yld i H x H' → ∃ F2, Grow Fc H F2 H' ∧ Rl F2 x d
theorem dpAll_get' : ∀ {vs : List V} {ds : List PyData} {i : Nat} {d : PyData}, DqAll K F vs ds → ds[i]? = some d → ∃ v, vs[i]? = some v ∧ Dq K F v d := dpAll_get
theorem get_lt {α : Type} {l : List α} {i : Nat} (h : i < l.length) : ∃ a, l[i]? = some a := ⟨l[i], by simp [h]⟩
theorem itok_list {a : Addr} {vs : List V} {ds : List PyData} (hq : SqL K F a vs) (r : DqAll K F vs ds) : ItOk (Dq K) F (Itl K a) ds where
  go := fun i H s h => by
    obtain ⟨x, hx⟩ := get_lt (l := vs) (i := i) (by rw [dpAll_len r]; exact h)
    exact ⟨vs, x, s.seq hq, hx⟩
  stop := fun H s => ⟨vs, s.seq hq, by rw [dpAll_len r]; exact Nat.le_refl _⟩
  yld := fun i d Fc H x H' hd s1 s2 y => by
    obtain ⟨rfl, y⟩ := y
    obtain ⟨v, h1, h2⟩ := dpAll_get r hd
    have e := y vs ((s1.trans s2).seq hq)
    rw [h1] at e; cases e
    exact ⟨Fc, Grow.refl s2, dp_mono s1 h2⟩
theorem itok_tup {a : Addr} {vs : List V} {ds : List PyData} (hq : SqT K F a vs) (r : DqAll K F vs ds) : ItOk (Dq K) F (Itt K a) ds where
  go := fun i H s h => by
    obtain ⟨x, hx⟩ := get_lt (l := vs) (i := i) (by rw [dpAll_len r]; exact h)
    exact ⟨vs, x, sqT_mono s hq, hx⟩
  stop := fun H s => ⟨vs, sqT_mono s hq, by rw [dpAll_len r]; exact Nat.le_refl _⟩
  yld := fun i d Fc H x H' hd s1 s2 y => by
    obtain ⟨rfl, y⟩ := y
    obtain ⟨v, h1, h2⟩ := dpAll_get r hd
    have e := y vs (sqT_mono (s1.trans s2) hq)
    rw [h1] at e; cases e
    exact ⟨Fc, Grow.refl s2, dp_mono s1 h2⟩
/-- lo, lo + 1, .. -/
def intsFrom (lo : Int) (n : Nat) : List PyData := (List.range n).map fun k => .int (lo + (k : Nat))
theorem itok_rng {lo : Int} {n : Nat} : ItOk (Dq K) F (Itr lo n) (intsFrom lo n) where
  go := fun i H s h => by
    show i < n
    simpa [intsFrom] using h
  stop := fun H s => by show n ≤ _; simp [intsFrom]
  yld := fun i d Fc H x H' hd s1 s2 y => by
    obtain ⟨rfl, rfl⟩ := y
    refine ⟨Fc, Grow.refl s2, ?_⟩
    simp only [intsFrom, List.getElem?_map, Option.map_eq_some_iff] at hd
    obtain ⟨k, hk, rfl⟩ := hd
    have e : k = i := by
      rw [List.getElem?_range (by
        have := List.getElem?_eq_some_iff.mp hk
        simpa using this.1)] at hk
      exact (Option.some.inj hk).symm
    subst e
    exact .int _
/-- (0, d0), (1, d1), .. -/
def enum (ds : List PyData) : List PyData := (List.range ds.length).map fun k => .tuple [.int (k : Nat), ds.getD k .none]
theorem enum_get {ds : List PyData} {i : Nat} {d : PyData} (h : (enum ds)[i]? = some d) : ∃ e, ds[i]? = some e ∧ d = .tuple [.int (i : Nat), e] := by
  simp only [enum, List.getElem?_map, Option.map_eq_some_iff] at h
  obtain ⟨k, hk, rfl⟩ := h
  have hlt : i < ds.length := by
    have := List.getElem?_eq_some_iff.mp hk
    simpa using this.1
  rw [List.getElem?_range hlt] at hk
  cases hk
  refine ⟨ds[i], by simp [hlt], ?_⟩
  rw [List.getD_eq_getElem?_getD]
  simp [hlt]
theorem enum_len {ds : List PyData} : (enum ds).length = ds.length := by simp [enum]
theorem itok_enum {a : Addr} {vs : List V} {ds : List PyData} (hq : SqL K F a vs) (r : DqAll K F vs ds) : ItOk (Dw K) F (Ite K a) (enum ds) where
  go := fun i H s h => by
    rw [enum_len] at h
    obtain ⟨x, hx⟩ := get_lt (l := vs) (i := i) (by rw [dpAll_len r]; exact h)
    exact ⟨vs, x, s.seq hq, hx⟩
  stop := fun H s => ⟨vs, s.seq hq, by rw [enum_len, dpAll_len r]; exact Nat.le_refl _⟩
  yld := fun i d Fc H x H' hd s1 s2 y => by
    obtain ⟨T, y, rfl, hT, rfl, hy⟩ := y
    obtain ⟨e, he, rfl⟩ := enum_get hd
    obtain ⟨v, h1, h2⟩ := dpAll_get r he
    have e := hy vs ((s1.trans s2).seq hq)
    rw [h1] at e; cases e
    have g : Grow Fc H _ _ := Grow.one (o := .tup [.int (i : Nat), y]) s2 hT
    exact ⟨_, g, .inr ⟨_, _, _, rfl, rfl, SqT.of upd_same, .cons (.int _) (.cons (dp_mono (s1.trans g.same) h2) .nil)⟩⟩
def zip2 : List PyData → List PyData → List PyData
  | a :: as, b :: bs => .tuple [a, b] :: zip2 as bs
  | _, _ => []
theorem zip2_get : ∀ {as bs : List PyData} {i : Nat} {d : PyData}, (zip2 as bs)[i]? = some d → ∃ a b, as[i]? = some a ∧ bs[i]? = some b ∧ d = .tuple [a, b]
  | a :: as, b :: bs, 0, d, h => ⟨a, b, rfl, rfl, by simpa [zip2] using h.symm⟩
  | a :: as, b :: bs, i + 1, d, h => by
    obtain ⟨x, y, h1, h2, h3⟩ := zip2_get (as := as) (bs := bs) (i := i) (d := d) (by simpa [zip2] using h)
    exact ⟨x, y, by simpa using h1, by simpa using h2, h3⟩
  | [], _, _, _, h => by simp [zip2] at h
  | _ :: _, [], _, _, h => by simp [zip2] at h
theorem zip2_len : ∀ {as bs : List PyData}, (zip2 as bs).length = min as.length bs.length
  | a :: as, b :: bs => by simp [zip2, zip2_len]
  | [], _ => by simp [zip2]
  | _ :: _, [] => by simp [zip2]
theorem itok_zip {a b : Addr} {vs us : List V} {ds es : List PyData} (hq : SqL K F a vs) (hp : SqL K F b us) (r : DqAll K F vs ds) (t : DqAll K F us es) : ItOk (Dw K) F (Itz K a b) (zip2 ds es) where
  go := fun i H s h => by
    rw [zip2_len] at h
    obtain ⟨x, hx⟩ := get_lt (l := vs) (i := i) (by rw [dpAll_len r]; omega)
    obtain ⟨y, hy⟩ := get_lt (l := us) (i := i) (by rw [dpAll_len t]; omega)
    exact ⟨vs, us, x, y, s.seq hq, s.seq hp, hx, hy⟩
  stop := fun H s => ⟨vs, us, s.seq hq, s.seq hp, by rw [zip2_len, dpAll_len r, dpAll_len t]; omega⟩
  yld := fun i d Fc H x H' hd s1 s2 y => by
    obtain ⟨T, y, z, rfl, hT, rfl, hy, hz⟩ := y
    obtain ⟨e, e2, he, he2, rfl⟩ := zip2_get hd
    obtain ⟨v, h1, h2⟩ := dpAll_get r he
    obtain ⟨u, h3, h4⟩ := dpAll_get t he2
    have e := hy vs ((s1.trans s2).seq hq)
    rw [h1] at e; cases e
    have e := hz us ((s1.trans s2).seq hp)
    rw [h3] at e; cases e
    have g : Grow Fc H _ _ := Grow.one (o := .tup [y, z]) s2 hT
    exact ⟨_, g, .inr ⟨_, _, _, rfl, rfl, SqT.of upd_same, .cons (dp_mono (s1.trans g.same) h2) (.cons (dp_mono (s1.trans g.same) h4) .nil)⟩⟩
theorem itok_zipT {a b : Addr} {vs us : List V} {ds es : List PyData} (hq : SqT K F a vs) (hp : SqT K F b us) (r : DqAll K F vs ds) (t : DqAll K F us es) : ItOk (Dw K) F (RZ.ItzT K a b) (zip2 ds es) where
  go := fun i H s h => by
    rw [zip2_len] at h
    obtain ⟨x, hx⟩ := get_lt (l := vs) (i := i) (by rw [dpAll_len r]; omega)
    obtain ⟨y, hy⟩ := get_lt (l := us) (i := i) (by rw [dpAll_len t]; omega)
    exact ⟨vs, us, x, y, sqT_mono s hq, sqT_mono s hp, hx, hy⟩
  stop := fun H s => ⟨vs, us, sqT_mono s hq, sqT_mono s hp, by rw [zip2_len, dpAll_len r, dpAll_len t]; omega⟩
  yld := fun i d Fc H x H' hd s1 s2 y => by
    obtain ⟨T, y, z, rfl, hT, rfl, hy, hz⟩ := y
    obtain ⟨e, e2, he, he2, rfl⟩ := zip2_get hd
    obtain ⟨v, h1, h2⟩ := dpAll_get r he
    obtain ⟨u, h3, h4⟩ := dpAll_get t he2
    have e := hy vs (sqT_mono (s1.trans s2) hq)
    rw [h1] at e; cases e
    have e := hz us (sqT_mono (s1.trans s2) hp)
    rw [h3] at e; cases e
    have g : Grow Fc H _ _ := Grow.one (o := .tup [y, z]) s2 hT
    exact ⟨_, g, .inr ⟨_, _, _, rfl, rfl, SqT.of upd_same, .cons (dp_mono (s1.trans g.same) h2) (.cons (dp_mono (s1.trans g.same) h4) .nil)⟩⟩
end
abbrev MI := Fm → Option (List PyData × Fm)
def tI (K : PySem.W.Frag) (Rl : RLT) (mi : MI) : TI := fun σ H R => ∃ F fm ds fm', Rel K F H σ fm ∧ mi fm = some (ds, fm') ∧ ∀ J F' H', Aft K σ F H fm F' H' fm' → ItOk Rl F' J ds → R J H'
def SI (X : Cx) (Rl : RLT) (tg iter : Expr) (mi : MI) : Prop := PI X tg iter (tI X.K Rl mi)
section
variable {X : Cx} {e a b c tg iter : Expr} {es : List Expr} {pos p1 p2 tpos : Pos} {st : Stmt} {sts body : List Stmt} {ro : List Nat} {elts : List Expr} {kk : Nat}
theorem pi_le {t t' : TI} (h : PI X tg iter t) (k : ∀ σ H Q, t' σ H Q → t σ H Q) : PI X tg iter t' := ⟨fun pins s σ H Q I q => h.run pins s σ H Q I (k σ H Q q)⟩
def iSq (K : PySem.W.Frag) (tl : TE) : TI := fun σ H R => tl σ H fun x H1 => ∃ a, x = .ref a ∧ (((∃ xs, SqL K H1 a xs) ∧ R (Itl K a) H1) ∨ ((∃ xs, SqT K H1 a xs) ∧ R (Itt K a) H1))
theorem pi_sq {l : Expr} {tl : TE} (hl : PE X l tl) : PI X tg l (iSq X.K tl) := by
  refine ⟨fun pins s σ H R I h => ?_⟩
  refine thn (hl.run pins s σ H _ I h) fun v s1 ⟨x, H1, I1, r1, q1⟩ => ?_
  obtain ⟨a, e, ⟨⟨xs, hq⟩, q⟩ | ⟨⟨xs, hq⟩, q⟩⟩ := q1
  · subst e
    cases r1
    obtain ⟨its, rv, p, hz⟩ := I1.list hq
    refine wpAny_pyIter_list p.isList ?_
    refine ⟨s1.heap.objs.size, [s1.heap.objs.size], _, _, H1, rfl, I1.kept (t' := s1.toks) fun b o e => Heap.get?_push_of_some _ e, turn_list a _, ⟨_, Heap.get?_push_size _ rfl, rfl, rfl⟩, fun b hb => ?_, q⟩
    have e : b = s1.heap.objs.size := by simpa using hb
    subst e
    exact I1.fpOk (Nat.le_refl _) (I1.hok.fresh (Nat.le_refl _))
  · subst e
    cases r1
    obtain ⟨its, rv, p, hz⟩ := I1.tuple hq
    refine wpAny_pyIter_tuple (show s1.heap.IsTuple a its.toArray from p) ?_
    refine ⟨s1.heap.objs.size, [s1.heap.objs.size], _, _, H1, rfl, I1.kept (t' := s1.toks) fun b o e => Heap.get?_push_of_some _ e, turn_tuple a _, ⟨_, Heap.get?_push_size _ rfl, rfl, rfl⟩, fun b hb => ?_, q⟩
    have e : b = s1.heap.objs.size := by simpa using hb
    subst e
    exact I1.fpOk (Nat.le_refl _) (I1.hok.fresh (Nat.le_refl _))
/-- a list or a tuple, walked -/
def iSeq (m : ME) : MI := fun fm => match m fm with
  | some (v, fm1) => match frz v fm1 with
    | some (.list ds, fm2) => some (ds, fm2)
    | some (.tuple ds, fm2) => some (ds, fm2)
    | _ => none
  | none => none
theorem Aft.frz {K : PySem.W.Frag} {F F1 H H1 : Hp} {σ : L2.St} {fm fm1 fm2 : Fm} {v : SV} {x : V} {d : PyData} (A : Aft K σ F H fm F1 H1 fm1) (V : VRel K F1 H1 σ fm1 v x) (N : VNew H v x) (h : frz v fm1 = some (d, fm2)) :
    ∃ F2, Aft K σ F H fm F2 H1 fm2 ∧ Dq K F2 x d := by
  obtain ⟨F2, E2, _, _, R2, D2, k2, _⟩ := frz_ok A.ext A.rel V N h
  exact ⟨F2, ⟨E2, A.kp.trans k2, R2⟩, D2⟩
theorem si_seq {m : ME} (h : SE X e m) : SI X (Dq X.K) tg e (iSeq m) := pi_le (pi_sq h) fun σ H R ⟨F, fm, ds, fm', rel, em, q⟩ => by
  unfold iSeq at em
  split at em
  · rename_i v fm1 e1
    refine ⟨F, fm, v, fm1, rel, e1, fun x F1 H1 A V N => ?_⟩
    split at em
    · rename_i ds' fm2 e2
      cases em
      obtain ⟨F2, A2, D2⟩ := A.frz V N e2
      cases D2 with
      | lst hq r => exact ⟨_, rfl, .inl ⟨⟨_, A2.rel.sub.seq hq⟩, q _ F2 H1 A2 (itok_list hq r)⟩⟩
    · rename_i ds' fm2 e2
      cases em
      obtain ⟨F2, A2, D2⟩ := A.frz V N e2
      cases D2 with
      | tup hq r => exact ⟨_, rfl, .inr ⟨⟨_, sqT_mono A2.rel.sub hq.1⟩, q _ F2 H1 A2 (itok_tup hq.1 r)⟩⟩
    · cases em
  · cases em
def iRan (m : MA) : MI := fun fm => match m fm with
  | some ([.dat (.int j)], fm1) => if -(2 ^ 62) ≤ j ∧ j < 2 ^ 62 then some (intsFrom 0 j.toNat, fm1) else none
  | _ => none
theorem vsrel1 {K : PySem.W.Frag} {F H : Hp} {σ : L2.St} {fm : Fm} {v : SV} {xs : List V} (h : VsRel K F H σ fm [v] xs) : ∃ x, xs = [x] ∧ VRel K F H σ fm v x := by
  cases h with
  | cons h r _ => cases r; exact ⟨_, rfl, h⟩
theorem vsrel2 {K : PySem.W.Frag} {F H : Hp} {σ : L2.St} {fm : Fm} {v w : SV} {xs : List V} (h : VsRel K F H σ fm [v, w] xs) : ∃ x y, xs = [x, y] ∧ VRel K F H σ fm v x ∧ VRel K F H σ fm w y := by
  cases h with
  | cons h r _ => obtain ⟨y, rfl, h2⟩ := vsrel1 r; exact ⟨_, y, rfl, h, h2⟩
theorem dpint {K : PySem.W.Frag} {F : Hp} {x : V} {i : Int} (h : Dq K F x (.int i)) : x = .int i := by cases h; rfl
theorem si_ran {m : MA} (hg : Gl X "range") (hm : X.mg "range" = none) (ha : SA X [a] m) (hs : starEach [a] X.env = [(false, eval a X.env)] := by rfl) : SI X (Dq X.K) tg (.Call (.Name "range" p1) [a] [] pos) (iRan m) :=
  pi_le (pi_range1 hg hm ha hs) fun σ H R ⟨F, fm, ds, fm', rel, em, q⟩ => by
    unfold iRan at em
    split at em
    · rename_i j fm1 e1
      split at em
      · rename_i hj
        cases em
        refine ⟨F, fm, _, _, rel, e1, fun xs F1 H1 A V N => ?_⟩
        obtain ⟨x, rfl, V1⟩ := vsrel1 V
        have := dpint V1
        subst this
        exact ⟨j, rfl, hj.1, hj.2, q _ F1 H1 A itok_rng⟩
      · cases em
    · cases em
def iRan2 (m : MA) : MI := fun fm => match m fm with
  | some ([.dat (.int i), .dat (.int j)], fm1) => if (-(2 ^ 62) ≤ i ∧ i < 2 ^ 62) ∧ -(2 ^ 62) ≤ j ∧ j < 2 ^ 62 then some (intsFrom i (j - i).toNat, fm1) else none
  | _ => none
theorem si_ran2 {m : MA} (hg : Gl X "range") (hm : X.mg "range" = none) (ha : SA X [a, b] m) (hs : starEach [a, b] X.env = [(false, eval a X.env), (false, eval b X.env)] := by rfl) (hs2 : starEach [b] X.env = [(false, eval b X.env)] := by rfl) : SI X (Dq X.K) tg (.Call (.Name "range" p1) [a, b] [] pos) (iRan2 m) :=
  pi_le (pi_range2 hg hm ha hs hs2) fun σ H R ⟨F, fm, ds, fm', rel, em, q⟩ => by
    unfold iRan2 at em
    split at em
    · rename_i i j fm1 e1
      split at em
      · rename_i hj
        cases em
        refine ⟨F, fm, _, _, rel, e1, fun xs F1 H1 A V N => ?_⟩
        obtain ⟨x, y, rfl, V1, V2⟩ := vsrel2 V
        have := dpint V1
        subst this
        have := dpint V2
        subst this
        exact ⟨i, j, rfl, ⟨hj.1.1, hj.1.2, hj.2.1, hj.2.2⟩, q _ F1 H1 A itok_rng⟩
      · cases em
    · cases em
/-- enumerate of a list -/
def iEnm (m : MA) : MI := fun fm => match m fm with
  | some ([v], fm1) => match frz v fm1 with
    | some (.list ds, fm2) => some (enum ds, fm2)
    | _ => none
  | _ => none
theorem vsnew1 {H : Hp} {v : SV} {x : V} (h : VsNew H [v] [x]) : VNew H v x := by cases h with | cons h _ => exact h
theorem si_enm {m : MA} (hg : Gl X "enumerate") (hm : X.mg "enumerate" = none) (ha : SA X [e] m) (hs : starEach [e] X.env = [(false, eval e X.env)] := by rfl) : SI X (Dw X.K) (.Tuple elts kk tpos) (.Call (.Name "enumerate" p1) [e] [] pos) (iEnm m) :=
  pi_le (pi_enum hg hm ha hs) fun σ H R ⟨F, fm, ds, fm', rel, em, q⟩ => by
    unfold iEnm at em
    split at em
    · rename_i v fm1 e1
      split at em
      · rename_i ds' fm2 e2
        cases em
        refine ⟨F, fm, _, fm1, rel, e1, fun xs F1 H1 A V N => ?_⟩
        obtain ⟨x, rfl, V1⟩ := vsrel1 V
        obtain ⟨F2, A2, D2⟩ := A.frz V1 (vsnew1 N) e2
        cases D2 with
        | lst hq r => exact ⟨_, _, rfl, A2.rel.sub.seq hq, q _ F2 H1 A2 (itok_enum hq r)⟩
      · cases em
    · cases em
/-- zip of two lists, of two tuples -/
def iZp (m : MA) : MI := fun fm => match m fm with
  | some (vs, fm1) => match frzAll vs fm1 with
    | some ([.list ds, .list es], fm2) => some (zip2 ds es, fm2)
    | some ([.tuple ds, .tuple es], fm2) => some (zip2 ds es, fm2)
    | _ => none
  | _ => none
theorem si_zip {m : MA} (hg : Gl X "zip") (hm : X.mg "zip" = none) (ha : SA X [a, b] m) (hs : starEach [a, b] X.env = (false, eval a X.env) :: starEach [b] X.env := by rfl) (hpl : (backTo pos (starEach [b] X.env)).any (·.1) = false := by rfl) : SI X (Dw X.K) (.Tuple elts kk tpos) (.Call (.Name "zip" p1) [a, b] [] pos) (iZp m) :=
  pi_le (RZ.pi_zipA hg hm ha hs hpl) fun σ H R ⟨F, fm, ds, fm', rel, em, q⟩ => by
    unfold iZp at em
    split at em
    · rename_i vs fm1 e1
      refine ⟨F, fm, _, fm1, rel, e1, fun xs F1 H1 A V N => ?_⟩
      split at em
      · rename_i ds' es' fm2 e2
        cases em
        obtain ⟨F2, A2, D2⟩ := aft_frzAll A V N e2
        cases D2 with
        | cons d1 r =>
          cases r with
          | cons d2 r =>
            cases r
            cases d1 with
            | lst hq r1 =>
              cases d2 with
              | lst hp r2 => exact ⟨_, _, _, _, rfl, .inl ⟨A2.rel.sub.seq hq, A2.rel.sub.seq hp, q _ F2 H1 A2 (itok_zip hq hp r1 r2)⟩⟩
      · rename_i ds' es' fm2 e2
        cases em
        obtain ⟨F2, A2, D2⟩ := aft_frzAll A V N e2
        cases D2 with
        | cons d1 r =>
          cases r with
          | cons d2 r =>
            cases r
            cases d1 with
            | tup hq r1 =>
              cases d2 with
              | tup hp r2 => exact ⟨_, _, _, _, rfl, .inr ⟨sqT_mono A2.rel.sub hq.1, sqT_mono A2.rel.sub hp.1, q _ F2 H1 A2 (itok_zipT hq.1 hp.1 r1 r2)⟩⟩
      · cases em
    · cases em

/-! ### for, while -/
def loopM (g : MG) (m : MS) : List PyData → Fm → Option (Fl × Fm)
  | [], fm => some (.nx, fm)
  | d :: ds, fm => match g d fm with
    | none => none
    | some fm1 => match m fm1 with
      | some (.nx, fm2) => loopM g m ds fm2
      | some (.ct, fm2) => loopM g m ds fm2
      | some (.bk, fm2) => some (.nx, fm2)
      | some (.rt v, fm2) => some (.rt v, fm2)
      | none => none
def mFor (mi : MI) (g : MG) (m : MS) : MS := fun fm => match mi fm with
  | some (ds, fm1) => loopM g m ds fm1
  | none => none
theorem ss_for {Rl : RLT} {mi : MI} {g : MG} {m : MS} (hp : PassesOwn (model X.prog X.w) X.A X.env X.xe) (hc : X.calm = true) (hi : SI X Rl tg iter mi) (hg : SG X Rl ro tg g) (hb : SSs X ro body m)
    (hs : ∀ x, foldedSetIterable iter X.env x = pure x := by intro _; rfl) : SS X ro (.For tg iter body [] pos) (mFor mi g m) :=
  ps_le (ps_for hp hc hi hg hb hs) fun D σ H ⟨F, fm, fl, fm', R, em, q⟩ => by
    unfold mFor at em
    split at em
    · rename_i ds fm1 e1
      refine ⟨F, fm, ds, fm1, R, e1, fun J F1 H1 A1 IO => ?_⟩
      refine ⟨fun i n σc Hc => n = ds.length - i ∧ i ≤ ds.length ∧ ∃ Fc fmc, AftS X.K ro σ F H fm σc Fc Hc fmc ∧ Same F1 Fc ∧ loopM g m (ds.drop i) fmc = some (fl, fm'), ⟨ds.length, rfl, Nat.zero_le _, F1, fm1, A1.s, Same.refl _, em⟩, ?_⟩
      rintro i n σc Hc ⟨rfl, hi, Fc, fmc, A, sF, el⟩
      by_cases hlt : i < ds.length
      · refine .inr ⟨IO.go i Hc (sF.trans A.rel.sub) hlt, fun σ' H' => (i + 1 ≤ ds.length ∧ ∃ Fc fmc, AftS X.K ro σ F H fm σ' Fc H' fmc ∧ Same F1 Fc ∧ loopM g m (ds.drop (i + 1)) fmc = some (fl, fm')), fun σ' H' p => ⟨ds.length - (i + 1), by omega, rfl, p.1, p.2⟩, fun x H' y => ?_⟩
        obtain ⟨F2, G, Dx⟩ := IO.yld i ds[i] Fc Hc x H' (by simp [hlt]) sF A.rel.sub y
        have A2 := A.trans (G.aft A.rel).s
        rw [List.drop_eq_getElem_cons hlt] at el
        simp only [loopM] at el
        split at el
        · cases el
        · rename_i fm2 eg
          refine ⟨F2, fmc, ds[i], fm2, A2.rel, Dx, eg, fun σ2 F3 H3 A3 => ?_⟩
          have A3' := A2.trans A3
          have s3 : Same F1 F3 := sF.trans (G.same.trans A3.ext.same)
          split at el
          · rename_i fm3 e3
            exact ⟨F3, fm2, _, fm3, A3.rel, e3, fun σ4 F4 H4 A4 => ⟨hlt, F4, fm3, A3'.trans A4, s3.trans A4.ext.same, el⟩⟩
          · rename_i fm3 e3
            exact ⟨F3, fm2, _, fm3, A3.rel, e3, fun σ4 F4 H4 A4 => ⟨hlt, F4, fm3, A3'.trans A4, s3.trans A4.ext.same, el⟩⟩
          · rename_i fm3 e3
            cases el
            exact ⟨F3, fm2, _, _, A3.rel, e3, fun σ4 F4 H4 A4 => q σ4 F4 H4 (A3'.trans A4)⟩
          · rename_i v fm3 e3
            cases el
            exact ⟨F3, fm2, _, _, A3.rel, e3, fun σ4 F4 H4 A4 x V N => q σ4 F4 H4 (A3'.trans A4) x V (N.back A3'.ext)⟩
          · cases el
      · have e : i = ds.length := by omega
        subst e
        rw [List.drop_length] at el
        cases el
        exact .inl ⟨IO.stop Hc (sF.trans A.rel.sub), q σc Fc Hc A⟩
    · cases em
def whileM (c : MT) (m : MS) : Nat → Fm → Option (Fl × Fm)
  | 0, _ => none
  | n + 1, fm => match c fm with
    | none => none
    | some (false, fm1) => some (.nx, fm1)
    | some (true, fm1) => match m fm1 with
      | some (.nx, fm2) => whileM c m n fm2
      | some (.ct, fm2) => whileM c m n fm2
      | some (.bk, fm2) => some (.nx, fm2)
      | some (.rt v, fm2) => some (.rt v, fm2)
      | none => none
/-- by at most n turns -/
def mWhile (n : Nat) (c : MT) (m : MS) : MS := whileM c m n
theorem ss_while {n : Nat} {mc : MT} {m : MS} (hp : PassesOwn (model X.prog X.w) X.A X.env X.xe) (hc : ST X c mc) (hb : SSs X ro body m) : SS X ro (.While c body [] pos) (mWhile n mc m) :=
  ps_le (ps_while hp hc hb) fun D σ H ⟨F, fm, fl, fm', R, em, q⟩ => by
    refine ⟨fun k σc Hc => ∃ Fc fmc, AftS X.K ro σ F H fm σc Fc Hc fmc ∧ whileM mc m k fmc = some (fl, fm'), ⟨n, F, fm, AftS.refl R, em⟩, ?_⟩
    rintro k σc Hc ⟨Fc, fmc, A, el⟩
    cases k with
    | zero => cases el
    | succ k =>
      simp only [whileM] at el
      split at el
      · cases el
      · rename_i fm1 e1
        cases el
        exact ⟨Fc, fmc, false, _, A.rel, e1, fun F1 H1 A1 => iteF (q σc F1 H1 (A.trans A1.s))⟩
      · rename_i fm1 e1
        refine ⟨Fc, fmc, true, fm1, A.rel, e1, fun F1 H1 A1 => iteT ?_⟩
        have A2 := A.trans A1.s
        refine ⟨fun σ' H' => ∃ Fc fmc, AftS X.K ro σ F H fm σ' Fc H' fmc ∧ whileM mc m k fmc = some (fl, fm'), fun σ' H' p => ⟨k, by omega, p⟩, ?_⟩
        split at el
        · rename_i fm3 e3
          exact ⟨F1, fm1, _, fm3, A2.rel, e3, fun σ4 F4 H4 A4 => ⟨F4, fm3, A2.trans A4, el⟩⟩
        · rename_i fm3 e3
          exact ⟨F1, fm1, _, fm3, A2.rel, e3, fun σ4 F4 H4 A4 => ⟨F4, fm3, A2.trans A4, el⟩⟩
        · rename_i fm3 e3
          cases el
          exact ⟨F1, fm1, _, _, A2.rel, e3, fun σ4 F4 H4 A4 => q σ4 F4 H4 (A2.trans A4)⟩
        · rename_i v fm3 e3
          cases el
          exact ⟨F1, fm1, _, _, A2.rel, e3, fun σ4 F4 H4 A4 x V N => q σ4 F4 H4 (A2.trans A4) x V (N.back A2.ext)⟩
        · cases el
end
end Rf

namespace Rf
open PySem L2

/-! ### calls of defs -/
/-- a def's meaning: its arguments (data, or objects of the caller's that it may change), its value, the arguments behind it -/
abbrev Dm := List S0 → Option (SV × List S0)
abbrev fA (as : List S0) : Fm := as.map some
abbrev sA (xs : List V) : L2.St := xs.map some
def spM (K : PySem.W.Frag) (f : Dm) : Sp := fun xs H Q _ => ∃ F as r outs, Rel K F H (sA xs) (fA as) ∧ f as = some (r, outs) ∧
  ∀ x F' H', Aft K (sA xs) F H (fA as) F' H' (fA outs) → VRel K F' H' (sA xs) (fA outs) r x → VNew H r x → Q x H'
def argOf (v : SV) (fm : Fm) : Option S0 := match v with
  | .dat d => some (.dat d)
  | .fre c => some (.own c)
  | .bor i => match fm[i]? with
    | some (some s) => some s
    | _ => none
def argsOf : List SV → Fm → Option (List S0)
  | [], _ => some []
  | v :: vs, fm => match argOf v fm with
    | some s => match argsOf vs fm with
      | some ss => some (s :: ss)
      | none => none
    | none => none
def bors : List SV → List Nat
  | [] => []
  | .bor i :: vs => i :: bors vs
  | _ :: vs => bors vs
def wback : List SV → List S0 → Fm → Fm
  | .bor i :: vs, o :: os, fm => (wback vs os fm).set i (some o)
  | _ :: vs, _ :: os, fm => wback vs os fm
  | _, _, fm => fm
def mCall (f : Dm) (ma : MA) : ME := fun fm => match ma fm with
  | none => none
  | some (vs, fm1) => match argsOf vs fm1 with
    | none => none
    | some as => if (bors vs).Nodup then (match f as with
      | some (.bor _, _) => none
      | some (r, outs) => some (r, wback vs outs fm1)
      | none => none) else none
section
variable {K : PySem.W.Frag} {F F' F0 F1 H H' H0 H1 : Hp} {σ : L2.St} {fm fm0 fm1 fm' : Fm} {vs : List SV} {xs : List V} {as outs : List S0}
theorem mCall_inv {f : Dm} {ma : MA} {v : SV} (h : mCall f ma fm = some (v, fm')) : ∃ vs fm1 as outs, ma fm = some (vs, fm1) ∧ argsOf vs fm1 = some as ∧ (bors vs).Nodup ∧ f as = some (v, outs) ∧ (∀ j, v ≠ .bor j) ∧ fm' = wback vs outs fm1 := by
  unfold mCall at h
  split at h
  · cases h
  · rename_i vs fm1 e1
    split at h
    · cases h
    · rename_i as e2
      split at h
      · rename_i nd
        split at h
        · cases h
        · rename_i r outs hb e3
          cases h
          exact ⟨vs, fm1, as, outs, e1, e2, nd, e3, fun j z => by subst z; exact hb j rfl, rfl⟩
        · cases h
      · cases h
theorem argsOf_get : ∀ {vs : List SV} {as : List S0} {k : Nat} {s : S0}, argsOf vs fm = some as → as[k]? = some s → ∃ v, vs[k]? = some v ∧ argOf v fm = some s
  | [], _, _, _, h, e => by cases h; simp at e
  | v :: vs, as, k, s, h, e => by
    simp only [argsOf] at h
    split at h
    · rename_i s1 e1
      split at h
      · rename_i ss e2
        cases h
        cases k with
        | zero => simp at e; subst e; exact ⟨v, rfl, e1⟩
        | succ k =>
          obtain ⟨w, h1, h2⟩ := argsOf_get (k := k) e2 (by simpa using e)
          exact ⟨w, by simpa using h1, h2⟩
      · cases h
    · cases h
theorem argsOf_len : ∀ {vs : List SV} {as : List S0}, argsOf vs fm = some as → as.length = vs.length
  | [], _, h => by cases h; rfl
  | v :: vs, as, h => by
    simp only [argsOf] at h
    split at h
    · split at h
      · rename_i ss e2
        cases h
        simp [argsOf_len e2]
      · cases h
    · cases h
theorem VsRel.get : ∀ {vs : List SV} {xs : List V} {k : Nat} {v : SV}, VsRel K F H σ fm vs xs → vs[k]? = some v → ∃ x, xs[k]? = some x ∧ VRel K F H σ fm v x
  | _, _, _, _, .nil, h => by simp at h
  | _, _, 0, _, .cons h _ _, e => by simp at e; subst e; exact ⟨_, rfl, h⟩
  | _, _, k + 1, v, .cons _ r _, e => by
    obtain ⟨x, h1, h2⟩ := VsRel.get (k := k) r (by simpa using e)
    exact ⟨x, by simpa using h1, h2⟩
theorem VsRel.apart : ∀ {vs : List SV} {xs : List V} {j k : Nat} {c c' : Cell} {x : V}, VsRel K F H σ fm vs xs → j < k → vs[j]? = some (.fre c) → vs[k]? = some (.fre c') → xs[j]? = some x → xs[k]? ≠ some x
  | _, _, _, _, _, _, _, .nil, _, h, _, _ => by simp at h
  | _, _, 0, k + 1, c, c', x, .cons h r d, _, e1, e2, e3 => by
    simp at e1 e3; subst e1 e3
    have := d c rfl k c' (by simpa using e2)
    simpa using this
  | _, _, j + 1, k + 1, c, c', x, .cons _ r _, hl, e1, e2, e3 => by
    have := VsRel.apart (j := j) (k := k) r (by omega) (by simpa using e1) (by simpa using e2) (by simpa using e3)
    simpa using this
theorem bors_mem : ∀ {vs : List SV} {k i : Nat}, vs[k]? = some (.bor i) → i ∈ bors vs
  | [], _, _, h => by simp at h
  | v :: vs, 0, i, h => by simp at h; subst h; simp [bors]
  | v :: vs, k + 1, i, h => by
    have := bors_mem (vs := vs) (k := k) (i := i) (by simpa using h)
    cases v <;> simp [bors, this]
theorem bors_apart : ∀ {vs : List SV} {j k i i' : Nat}, (bors vs).Nodup → j < k → vs[j]? = some (.bor i) → vs[k]? = some (.bor i') → i ≠ i'
  | [], _, _, _, _, _, _, h, _ => by simp at h
  | v :: vs, 0, k + 1, i, i', nd, _, h1, h2 => by
    simp at h1; subst h1
    have m := bors_mem (vs := vs) (k := k) (by simpa using h2)
    simp [bors] at nd
    intro e; subst e; exact nd.1 m
  | v :: vs, j + 1, k + 1, i, i', nd, hl, h1, h2 => by
    have nd' : (bors vs).Nodup := by
      cases v <;> simp [bors] at nd
      · exact nd
      · exact nd
      · exact nd.2
    exact bors_apart (j := j) (k := k) nd' (by omega) (by simpa using h1) (by simpa using h2)
theorem live_args {p : Addr} (h : Live (sA xs) (fA as) p) : ∃ (k : Nat) (c : Cell), as[k]? = some (.own c) ∧ xs[k]? = some (.ref p) := by
  obtain ⟨k, c, h1, h2⟩ := h
  rw [List.getElem?_map] at h1 h2
  refine ⟨k, c, ?_, ?_⟩
  · cases e : as[k]? with
    | none => rw [e] at h1; cases h1
    | some s => rw [e] at h1; cases h1; rfl
  · cases e : xs[k]? with
    | none => rw [e] at h2; cases h2
    | some s => rw [e] at h2; cases h2; rfl
theorem args_live {p : Addr} {k : Nat} {c : Cell} (h1 : as[k]? = some (.own c)) (h2 : xs[k]? = some (.ref p)) : Live (sA xs) (fA as) p :=
  ⟨k, c, by rw [List.getElem?_map, h1]; rfl, by rw [List.getElem?_map, h2]; rfl⟩
/-- an object among the arguments: new, or of a slot -/
theorem arg_own (R : Rel K F H σ fm) (V : VsRel K F H σ fm vs xs) (hA : argsOf vs fm = some as) {k : Nat} {c : Cell} (h : as[k]? = some (.own c)) :
    ∃ p, xs[k]? = some (.ref p) ∧ F p = none ∧ CRel K F H p c ∧ ((vs[k]? = some (.fre c) ∧ ¬ Live σ fm p) ∨ (∃ i, vs[k]? = some (.bor i) ∧ fm[i]? = some (some (.own c)) ∧ σ[i]? = some (some (.ref p)))) := by
  obtain ⟨v, h1, h2⟩ := argsOf_get hA h
  obtain ⟨x, h3, h4⟩ := V.get h1
  cases v with
  | dat d => cases h2
  | fre c' =>
    cases h2
    obtain ⟨p, rfl, hf, hc, hl⟩ := h4
    exact ⟨p, h3, hf, hc, .inl ⟨h1, hl⟩⟩
  | bor i =>
    simp only [argOf] at h2
    obtain ⟨h5, s, h6⟩ := h4
    rw [h6] at h2
    cases h2
    obtain ⟨p, h7, h8, h9⟩ := R.own i c h6
    rw [h5] at h7; cases h7
    exact ⟨p, h3, h8, h9, .inr ⟨i, h1, h6, h5⟩⟩
theorem arg_dat (R : Rel K F H σ fm) (V : VsRel K F H σ fm vs xs) (hA : argsOf vs fm = some as) {k : Nat} {d : PyData} (h : as[k]? = some (.dat d)) :
    ∃ x, xs[k]? = some x ∧ Dq K F x d := by
  obtain ⟨v, h1, h2⟩ := argsOf_get hA h
  obtain ⟨x, h3, h4⟩ := V.get h1
  cases v with
  | dat d => cases h2; exact ⟨x, h3, h4⟩
  | fre c' => cases h2
  | bor i =>
    simp only [argOf] at h2
    obtain ⟨h5, s, h6⟩ := h4
    rw [h6] at h2
    cases h2
    obtain ⟨y, h7, h8⟩ := R.dat i d h6
    rw [h5] at h7; cases h7
    exact ⟨x, h3, h8⟩
theorem get_some {α : Type} {l : List α} {i : Nat} {a : α} (h : (l.map some)[i]? = some (some a)) : l[i]? = some a := by
  rw [List.getElem?_map] at h
  cases e : l[i]? with
  | none => rw [e] at h; cases h
  | some s => rw [e] at h; cases h; rfl
theorem some_get {α : Type} {l : List α} {i : Nat} {a : α} (h : l[i]? = some a) : (l.map some)[i]? = some (some a) := by
  rw [List.getElem?_map, h]; rfl
theorem args_rel (R : Rel K F H σ fm) (V : VsRel K F H σ fm vs xs) (hA : argsOf vs fm = some as) (nd : (bors vs).Nodup) : Rel K F H (sA xs) (fA as) := by
  refine ⟨R.sub, ?_, fun i d h => ?_, fun i c h => ?_, fun i j c c' p hne h1 h2 h3 h4 => ?_⟩
  · rw [List.length_map, List.length_map, argsOf_len hA, V.len]
  · obtain ⟨x, h1, h2⟩ := arg_dat R V hA (get_some h)
    exact ⟨x, some_get h1, h2⟩
  · obtain ⟨p, h1, h2, h3, _⟩ := arg_own R V hA (get_some h)
    exact ⟨p, some_get h1, h2, h3⟩
  · have key : ∀ {i j : Nat} {c c' : Cell}, i < j → as[i]? = some (.own c) → as[j]? = some (.own c') → xs[i]? = some (.ref p) → xs[j]? = some (.ref p) → False := fun {i j c c'} hl g1 g2 g3 g4 => by
      obtain ⟨p1, a1, a2, a3, a4⟩ := arg_own R V hA g1
      obtain ⟨p2, b1, b2, b3, b4⟩ := arg_own R V hA g2
      rw [g3] at a1; cases a1
      rw [g4] at b1; cases b1
      rcases a4 with ⟨u1, u2⟩ | ⟨ia, u1, u2, u3⟩ <;> rcases b4 with ⟨w1, w2⟩ | ⟨ib, w1, w2, w3⟩
      · exact V.apart hl u1 w1 g3 g4
      · exact u2 ⟨ib, _, w2, w3⟩
      · exact w2 ⟨ia, _, u2, u3⟩
      · exact R.apart ia ib c c' p (bors_apart nd hl u1 w1) u2 w2 u3 w3
    have e1 := get_some h1
    have e2 := get_some h2
    have e3 := get_some h3
    have e4 := get_some h4
    rcases Nat.lt_or_gt_of_ne hne with hl | hl
    · exact key hl e1 e2 e3 e4
    · exact key hl e2 e1 e4 e3
theorem wback_len : ∀ (vs : List SV) (outs : List S0) (fm : Fm), (wback vs outs fm).length = fm.length
  | [], _, _ => by simp [wback]
  | v :: vs, [], _ => by cases v <;> simp [wback]
  | v :: vs, o :: os, fm => by cases v <;> simp [wback, wback_len vs os fm]
theorem wback_out : ∀ {vs : List SV} {outs : List S0} {j : Nat}, (∀ k : Nat, vs[k]? ≠ some (.bor j)) → (wback vs outs fm)[j]? = fm[j]?
  | [], _, _, _ => by simp [wback]
  | v :: vs, [], _, _ => by cases v <;> simp [wback]
  | v :: vs, o :: os, j, h => by
    have ih := wback_out (vs := vs) (outs := os) (j := j) fun k => by simpa using h (k + 1)
    cases v with
    | dat d => simpa [wback] using ih
    | fre d => simpa [wback] using ih
    | bor i =>
      have ne : i ≠ j := fun e => h 0 (by subst e; rfl)
      simp only [wback]
      rw [List.getElem?_set_ne ne]
      exact ih
theorem wback_in : ∀ {vs : List SV} {outs : List S0} {j k : Nat} {o : S0}, (bors vs).Nodup → vs[k]? = some (.bor j) → outs[k]? = some o → j < fm.length → (wback vs outs fm)[j]? = some (some o)
  | [], _, _, _, _, _, h, _, _ => by simp at h
  | v :: vs, [], _, _, _, _, _, h, _ => by simp at h
  | v :: vs, o :: os, j, 0, o', nd, h1, h2, hl => by
    simp at h1 h2; subst h1 h2
    simp only [wback]
    exact List.getElem?_set_self (by rw [wback_len]; exact hl)
  | v :: vs, o :: os, j, k + 1, o', nd, h1, h2, hl => by
    have nd' : (bors vs).Nodup := by
      cases v <;> simp [bors] at nd
      · exact nd
      · exact nd
      · exact nd.2
    have ih := wback_in (vs := vs) (outs := os) (j := j) (k := k) nd' (by simpa using h1) (by simpa using h2) hl
    cases v with
    | dat d => simpa [wback] using ih
    | fre d => simpa [wback] using ih
    | bor i =>
      have ne : i ≠ j := bors_apart (j := 0) (k := k + 1) nd (by omega) rfl h1
      simp only [wback]
      rw [List.getElem?_set_ne ne]
      exact ih
theorem wback_cases (nd : (bors vs).Nodup) (hl : outs.length = vs.length) (j : Nat) (hj : j < fm.length) :
    (∃ (k : Nat) (o : S0), vs[k]? = some (.bor j) ∧ outs[k]? = some o ∧ (wback vs outs fm)[j]? = some (some o)) ∨ ((∀ k : Nat, vs[k]? ≠ some (.bor j)) ∧ (wback vs outs fm)[j]? = fm[j]?) := by
  by_cases h : ∃ k : Nat, vs[k]? = some (.bor j)
  · obtain ⟨k, hk⟩ := h
    have hkl : k < outs.length := by
      obtain ⟨z, _⟩ := List.getElem?_eq_some_iff.mp hk
      rw [hl]; exact z
    exact .inl ⟨k, outs[k], hk, by simp [hkl], wback_in nd hk (by simp [hkl]) hj⟩
  · have h' : ∀ k : Nat, vs[k]? ≠ some (.bor j) := fun k e => h ⟨k, e⟩
    exact .inr ⟨h', wback_out h'⟩
theorem call_aft (A : Aft K σ F0 H0 fm0 F H fm) (V : VsRel K F H σ fm vs xs) (N : VsNew H0 vs xs) (hA : argsOf vs fm = some as) (nd : (bors vs).Nodup) (B : Aft K (sA xs) F H (fA as) F' H' (fA outs)) :
    Aft K σ F0 H0 fm0 F' H' (wback vs outs fm) ∧ (∀ p, Live σ (wback vs outs fm) p → Live σ fm p ∨ Live (sA xs) (fA outs) p) := by
  have R := A.rel
  have hol : outs.length = vs.length := by
    have := B.rel.len
    rw [List.length_map, List.length_map] at this
    rw [this, V.len]
  have lv : ∀ p, Live (sA xs) (fA as) p → Live σ fm0 p ∨ H0 p = none := fun p h => by
    obtain ⟨k, c, h1, h2⟩ := live_args h
    obtain ⟨q, h3, h4, h5, h6⟩ := arg_own R V hA h1
    rw [h2] at h3; cases h3
    rcases h6 with ⟨h6, _⟩ | ⟨i, h6, h7, h8⟩
    · exact .inr (N.get h6 h2 p rfl)
    · exact A.ext.live p ⟨i, c, h7, h8⟩
  have slot : ∀ {j : Nat} {s : S0}, (wback vs outs fm)[j]? = some (some s) → (∃ (k : Nat) (x : L2.V), vs[k]? = some (.bor j) ∧ outs[k]? = some s ∧ xs[k]? = some x ∧ σ[j]? = some (some x)) ∨ ((∀ k : Nat, vs[k]? ≠ some (.bor j)) ∧ fm[j]? = some (some s)) := fun {j s} h => by
    have hj : j < fm.length := by
      obtain ⟨z, _⟩ := List.getElem?_eq_some_iff.mp h
      rwa [wback_len] at z
    rcases wback_cases nd hol j hj with ⟨k, o, h1, h2, h3⟩ | ⟨h1, h2⟩
    · rw [h] at h3; cases h3
      obtain ⟨x, h4, h5⟩ := V.get h1
      exact .inl ⟨k, x, h1, h2, h4, h5.1⟩
    · rw [h] at h2; exact .inr ⟨h1, h2.symm⟩
  have live2 : ∀ p, Live σ (wback vs outs fm) p → Live σ fm p ∨ Live (sA xs) (fA outs) p := fun p ⟨j, c, h1, h2⟩ => by
    rcases slot h1 with ⟨k, x, a1, a2, a3, a4⟩ | ⟨a1, a2⟩
    · rw [h2] at a4; cases a4
      exact .inr (args_live a2 a3)
    · exact .inl ⟨j, c, a2, h2⟩
  -- an own slot that was not handed over
  have kept : ∀ {j : Nat} {c : Cell} {p : Addr}, (∀ k : Nat, vs[k]? ≠ some (.bor j)) → fm[j]? = some (some (.own c)) → σ[j]? = some (some (.ref p)) → ¬ Live (sA xs) (fA as) p := fun {j c p} hn h1 h2 h => by
    obtain ⟨k, c', h3, h4⟩ := live_args h
    obtain ⟨q, h5, h6, h7, h8⟩ := arg_own R V hA h3
    rw [h4] at h5; cases h5
    rcases h8 with ⟨_, h8⟩ | ⟨i, h8, h9, h10⟩
    · exact h8 ⟨j, c, h1, h2⟩
    · by_cases e : i = j
      · subst e; exact hn k h8
      · exact R.apart i j c' c p e h9 h1 h10 h2
  refine ⟨⟨⟨A.ext.same.trans B.ext.same, fun a o hl h => ?_, fun a o h => ?_, fun a h => ?_, fun a h => A.ext.grow a (B.ext.grow a h)⟩, fun i s h => ?_, ⟨B.rel.sub, ?_, fun j d h => ?_, fun j c h => ?_, fun i j c c' p hne h1 h2 h3 h4 => ?_⟩⟩, live2⟩
  · refine B.ext.keep a o (fun q => ?_) (A.ext.keep a o hl h)
    rcases lv a q with q | q
    · exact hl q
    · rw [h] at q; cases q
  · rcases B.ext.new a o h with q | q | q
    · exact A.ext.new a o q
    · exact .inr (.inl (A.ext.grow a q))
    · rcases lv a q with q | q
      · exact .inr (.inr q)
      · exact .inr (.inl q)
  · rcases live2 a h with q | q
    · exact A.ext.live a q
    · rcases B.ext.live a q with q | q
      · exact lv a q
      · exact .inr (A.ext.grow a q)
  · obtain ⟨s1, h1⟩ := A.kp i s h
    have hj : i < fm.length := by
      obtain ⟨z, _⟩ := List.getElem?_eq_some_iff.mp h1
      exact z
    rcases wback_cases nd hol i hj with ⟨k, o, _, _, h3⟩ | ⟨_, h2⟩
    · exact ⟨o, h3⟩
    · exact ⟨s1, by rw [h2]; exact h1⟩
  · rw [wback_len]; exact R.len
  · rcases slot h with ⟨k, x, a1, a2, a3, a4⟩ | ⟨a1, a2⟩
    · obtain ⟨y, b1, b2⟩ := B.rel.dat k d (some_get a2)
      rw [some_get a3] at b1; cases b1
      exact ⟨x, a4, b2⟩
    · obtain ⟨y, b1, b2⟩ := R.dat j d a2
      exact ⟨y, b1, dp_mono B.ext.same b2⟩
  · rcases slot h with ⟨k, x, a1, a2, a3, a4⟩ | ⟨a1, a2⟩
    · obtain ⟨p, b1, b2, b3⟩ := B.rel.own k c (some_get a2)
      rw [some_get a3] at b1; cases b1
      exact ⟨p, a4, b2, b3⟩
    · obtain ⟨p, b1, b2, b3⟩ := R.own j c a2
      have nl := kept a1 a2 b1
      obtain ⟨o, ho⟩ := b3.some'
      refine ⟨p, b1, ?_, b3.mono B.ext.same fun o h => B.ext.keep p o nl h⟩
      cases q : F' p with
      | none => rfl
      | some u =>
        rcases B.ext.new p u q with z | z | z
        · rw [b2] at z; cases z
        · rw [ho] at z; cases z
        · exact absurd z nl
  · have old : ∀ {i j k : Nat} {c c' : Cell} {x : L2.V}, vs[k]? = some (.bor i) → outs[k]? = some (.own c) → xs[k]? = some x → σ[i]? = some (some x) → (∀ k : Nat, vs[k]? ≠ some (.bor j)) → fm[j]? = some (some (.own c')) → σ[i]? = some (some (.ref p)) → σ[j]? = some (some (.ref p)) → False := fun {i j k c c' x} a1 a2 a3 a4 b1 b2 g3 g4 => by
      rw [g3] at a4; cases a4
      have nl := kept b1 b2 g4
      obtain ⟨q, c1, c2, c3⟩ := R.own j c' b2
      rw [g4] at c1; cases c1
      obtain ⟨o, ho⟩ := c3.some'
      rcases B.ext.live p (args_live a2 a3) with z | z
      · exact nl z
      · rw [ho] at z; cases z
    rcases slot h1 with ⟨k, x, a1, a2, a3, a4⟩ | ⟨a1, a2⟩ <;> rcases slot h2 with ⟨k', x', b1, b2, b3, b4⟩ | ⟨b1, b2⟩
    · rw [h3] at a4; cases a4
      rw [h4] at b4; cases b4
      have hk : k ≠ k' := fun e => by subst e; rw [a1] at b1; cases b1; exact hne rfl
      exact B.rel.apart k k' c c' p hk (some_get a2) (some_get b2) (some_get a3) (some_get b3)
    · exact old a1 a2 a3 a4 b1 b2 h3 h4
    · exact old b1 b2 b3 b4 a1 a2 h4 h3
    · exact R.apart i j c c' p hne a2 b2 h3 h4
theorem tE_call {D : Dm} {ma : MA} {E : XK} {Q : VK} (h : tE K (mCall D ma) σ H Q) : tCall (spM K D) [] E (tA K ma) σ H Q := by
  obtain ⟨F, fm, v, fm', R, em, q⟩ := h
  obtain ⟨vs, fm1, as, outs, e1, e2, nd, e3, nb, rfl⟩ := mCall_inv em
  refine ⟨F, fm, vs, fm1, R, e1, fun xs F1 H1 A1 V1 N1 => ?_⟩
  show spM K D (xs ++ []) H1 Q E
  rw [List.append_nil]
  refine ⟨F1, as, v, outs, args_rel A1.rel V1 e2 nd, e3, fun x F2 H2 A2 V2 N2 => ?_⟩
  obtain ⟨A3, L3⟩ := call_aft A1 V1 N1 e2 nd A2
  refine q x F2 H2 A3 ?_ (A1.new N2)
  cases v with
  | dat d => exact V2
  | bor j => exact absurd rfl (nb j)
  | fre c =>
    obtain ⟨p, rfl, hf, hc, hl⟩ := V2
    refine ⟨p, rfl, hf, hc, fun z => ?_⟩
    rcases L3 p z with z | z
    · exact A1.rel.nolive (N2 p rfl) z
    · exact hl z
end
section
variable {X : Cx} {k : Nat} {f : Addr} {fd : FuncData} {ps : List Str} {E : XK} {x : Str} {p pos : Pos} {e : Expr} {es : List Expr}
theorem se_call {D : Dm} {ma : MA} (F : FnOk X.prog X.w X.K X.mg X.base CX0 k f fd ps (spM X.K D)) (hr : Room k X.A) (hg : Gl X x) (hm : X.mg x = some (.ref f)) (hk : PySem.W.keepIn X.K (.ref f) = true) (hb : Binds X.K fd ps []) (hx : Passes CX0 X E)
    (ha : SA X (e :: es) ma) (hdb : (x == ("__debug__" : Str)) = false := by decide) (he : starEach (e :: es) X.env = (false, eval e X.env) :: starEach es X.env := by rfl) (hpl : (backTo pos (starEach es X.env)).any (·.1) = false := by rfl) :
    SE X (.Call (.Name x p) (e :: es) [] pos) (mCall D ma) :=
  pe_le (pe_call F hr hg hm hk hb .nil hx ha hdb he hpl) fun σ H Q h => tE_call h
end
end Rf

namespace Rf
open PySem L2

/-! ### defs -/
def outAt (ro : List Nat) (i : Nat) (a : S0) (fm : Fm) : Option S0 := if i ∈ ro then (match fm[i]? with
    | some (some s) => some s
    | _ => none)
  else match a with
    | .dat d => some (.dat d)
    | _ => none
def outsFrom (ro : List Nat) (fm : Fm) : Nat → List S0 → Option (List S0)
  | _, [] => some []
  | i, a :: as => match outAt ro i a fm with
    | some o => match outsFrom ro fm (i + 1) as with
      | some os => some (o :: os)
      | none => none
    | none => none
/-- no parameter's object has been frozen -/
def ownsStay (fm : Fm) : Nat → List S0 → Bool
  | _, [] => true
  | i, .dat _ :: as => ownsStay fm (i + 1) as
  | i, .own _ :: as => match fm[i]? with
    | some (some (.own _)) => ownsStay fm (i + 1) as
    | _ => false
/-- what a def hands back -/
def retv (as : List S0) (v : SV) (fm : Fm) : Option (SV × Fm) := match v with
  | .dat d => some (.dat d, fm)
  | .fre c => some (.fre c, fm)
  | .bor j => if j < as.length then (match frz (.bor j) fm with
      | some (d, fm1) => some (.dat d, fm1)
      | none => none)
    else match fm[j]? with
      | some (some (.own c)) => if ownsStay fm 0 as then some (.fre c, fm.set j none) else none
      | some (some (.dat d)) => some (.dat d, fm)
      | _ => none
def mkD (n N : Nat) (ro : List Nat) (m : MS) : Dm := fun as => if as.length = n then (match m (as.map some ++ List.replicate (N - n) none) with
    | some (.rt v, fm1) => match retv as v fm1 with
      | some (r, fm2) => match outsFrom ro fm2 0 as with
        | some outs => some (r, outs)
        | none => none
      | none => none
    | some (.nx, fm1) => match outsFrom ro fm1 0 as with
      | some outs => some (.dat .none, outs)
      | none => none
    | _ => none) else none
section
variable {K : PySem.W.Frag} {F F' F0 F1 H H' H0 H1 : Hp} {σ σ' σ0 : L2.St} {fm fm0 fm1 fm' : Fm} {vs : List SV} {xs : List L2.V} {as outs : List S0} {ro : List Nat}
theorem outsFrom_len : ∀ {as outs : List S0} {i : Nat}, outsFrom ro fm i as = some outs → outs.length = as.length
  | [], _, _, h => by cases h; rfl
  | a :: as, outs, i, h => by
    simp only [outsFrom] at h
    split at h
    · split at h
      · rename_i os e
        cases h
        simp [outsFrom_len e]
      · cases h
    · cases h
theorem outsFrom_get : ∀ {as outs : List S0} {i k : Nat} {o : S0}, outsFrom ro fm i as = some outs → outs[k]? = some o → ∃ a, as[k]? = some a ∧ outAt ro (i + k) a fm = some o
  | [], _, _, _, _, h, e => by cases h; simp at e
  | a :: as, outs, i, k, o, h, e => by
    simp only [outsFrom] at h
    split at h
    · rename_i o1 e1
      split at h
      · rename_i os e2
        cases h
        cases k with
        | zero => simp at e; subst e; exact ⟨a, rfl, e1⟩
        | succ k =>
          obtain ⟨b, h1, h2⟩ := outsFrom_get (k := k) e2 (by simpa using e)
          refine ⟨b, by simpa using h1, ?_⟩
          rw [show i + (k + 1) = i + 1 + k by omega]
          exact h2
      · cases h
    · cases h
theorem outAt_cases {i : Nat} {a o : S0} (h : outAt ro i a fm = some o) : (i ∈ ro ∧ fm[i]? = some (some o)) ∨ (∃ d, a = .dat d ∧ o = .dat d) := by
  unfold outAt at h
  split at h
  · rename_i hi
    split at h
    · rename_i s e
      cases h
      exact .inl ⟨hi, e⟩
    · cases h
  · split at h
    · rename_i d
      cases h
      exact .inr ⟨d, rfl, rfl⟩
    · cases h
theorem ownsStay_get : ∀ {as : List S0} {i k : Nat} {c : Cell}, ownsStay fm i as = true → as[k]? = some (.own c) → ∃ c', fm[i + k]? = some (some (.own c'))
  | [], _, _, _, _, e => by simp at e
  | .dat d :: as, i, 0, c, h, e => by simp at e
  | .dat d :: as, i, k + 1, c, h, e => by
    obtain ⟨c', h1⟩ := ownsStay_get (k := k) (show ownsStay fm (i + 1) as = true from h) (by simpa using e)
    exact ⟨c', by rw [show i + (k + 1) = i + 1 + k by omega]; exact h1⟩
  | .own c0 :: as, i, k, c, h, e => by
    simp only [ownsStay] at h
    split at h
    · rename_i c1 e1
      cases k with
      | zero => exact ⟨c1, e1⟩
      | succ k =>
        obtain ⟨c', h1⟩ := ownsStay_get (k := k) h (by simpa using e)
        exact ⟨c', by rw [show i + (k + 1) = i + 1 + k by omega]; exact h1⟩
    · cases h
theorem pad_get {α : Type} {l : List α} {n i : Nat} {a : α} (h : (l.map some ++ List.replicate n none)[i]? = some (some a)) : l[i]? = some a := by
  by_cases hi : i < l.length
  · rw [List.getElem?_append_left (by simpa using hi)] at h
    exact get_some h
  · rw [List.getElem?_append_right (by simpa using hi)] at h
    rw [List.getElem?_replicate] at h
    split at h <;> cases h
theorem get_pad {α : Type} {l : List α} {n i : Nat} {a : α} (h : l[i]? = some a) : (l.map some ++ List.replicate n none)[i]? = some (some a) := by
  have hi : i < l.length := by
    obtain ⟨z, _⟩ := List.getElem?_eq_some_iff.mp h
    exact z
  rw [List.getElem?_append_left (by simpa using hi)]
  exact some_get h
theorem start_rel {n : Nat} (R : Rel K F H (sA xs) (fA as)) : Rel K F H (xs.map some ++ List.replicate n none) (as.map some ++ List.replicate n none) := by
  refine ⟨R.sub, ?_, fun i d h => ?_, fun i c h => ?_, fun i j c c' p hne h1 h2 h3 h4 => ?_⟩
  · have := R.len
    rw [List.length_map, List.length_map] at this
    simp [this]
  · obtain ⟨v, h1, h2⟩ := R.dat i d (some_get (pad_get h))
    exact ⟨v, get_pad (get_some h1), h2⟩
  · obtain ⟨v, h1, h2⟩ := R.own i c (some_get (pad_get h))
    exact ⟨v, get_pad (get_some h1), h2⟩
  · exact R.apart i j c c' p hne (some_get (pad_get h1)) (some_get (pad_get h2)) (some_get (pad_get h3)) (some_get (pad_get h4))
theorem live_pad {n : Nat} {p : Addr} (h : Live (xs.map some ++ List.replicate n none) (as.map some ++ List.replicate n none) p) : Live (sA xs) (fA as) p := by
  obtain ⟨i, c, h1, h2⟩ := h
  exact ⟨i, c, some_get (pad_get h1), some_get (pad_get h2)⟩
/-- the frame is left -/
theorem leave_ok {n : Nat} (R0 : Rel K F H (sA xs) (fA as)) (E : Ext (Live (sA xs) (fA as)) F H (Live σ' fm1) F' H') (R : Rel K F' H' σ' fm1) (pin : ∀ i ∈ ro, σ'[i]? = (xs.map some ++ List.replicate n none)[i]?) (ho : outsFrom ro fm1 0 as = some outs) :
    Aft K (sA xs) F H (fA as) F' H' (fA outs) ∧ (∀ p, Live (sA xs) (fA outs) p → Live σ' fm1 p) := by
  have hl : as.length = xs.length := by
    have := R0.len
    rwa [List.length_map, List.length_map] at this
  have hol := outsFrom_len ho
  have at' : ∀ {k : Nat} {o : S0}, outs[k]? = some o → (fm1[k]? = some (some o) ∧ ∃ x, xs[k]? = some x ∧ σ'[k]? = some (some x)) ∨ (∃ d, as[k]? = some (.dat d) ∧ o = .dat d) := fun {k o} h => by
    obtain ⟨a, h1, h2⟩ := outsFrom_get ho h
    rw [Nat.zero_add] at h2
    rcases outAt_cases h2 with ⟨h3, h4⟩ | ⟨d, rfl, rfl⟩
    · have hk : k < xs.length := by
        obtain ⟨z, _⟩ := List.getElem?_eq_some_iff.mp h
        omega
      refine .inl ⟨h4, xs[k], by simp [hk], ?_⟩
      rw [pin k h3]
      exact get_pad (by simp [hk])
    · exact .inr ⟨d, h1, rfl⟩
  have live' : ∀ p, Live (sA xs) (fA outs) p → Live σ' fm1 p := fun p h => by
    obtain ⟨k, c, h1, h2⟩ := live_args h
    rcases at' h1 with ⟨h3, x, h4, h5⟩ | ⟨d, _, h3⟩
    · rw [h2] at h4; cases h4
      exact ⟨k, c, h3, h5⟩
    · cases h3
  refine ⟨⟨⟨E.same, E.keep, E.new, fun p h => E.live p (live' p h), E.grow⟩, fun i s h => ?_, ⟨R.sub, ?_, fun i d h => ?_, fun i c h => ?_, fun i j c c' p hne h1 h2 h3 h4 => ?_⟩⟩, live'⟩
  · have hi : i < outs.length := by
      obtain ⟨z, _⟩ := List.getElem?_eq_some_iff.mp (get_some h)
      omega
    exact ⟨outs[i], some_get (by simp [hi])⟩
  · simp; omega
  · rcases at' (get_some h) with ⟨h3, x, h4, h5⟩ | ⟨d', h3, h4⟩
    · obtain ⟨y, h6, h7⟩ := R.dat i d h3
      rw [h5] at h6; cases h6
      exact ⟨x, some_get h4, h7⟩
    · cases h4
      obtain ⟨y, h6, h7⟩ := R0.dat i d (some_get h3)
      exact ⟨y, h6, dp_mono E.same h7⟩
  · rcases at' (get_some h) with ⟨h3, x, h4, h5⟩ | ⟨d', h3, h4⟩
    · obtain ⟨p, h6, h7⟩ := R.own i c h3
      rw [h5] at h6; cases h6
      exact ⟨p, some_get h4, h7⟩
    · cases h4
  · rcases at' (get_some h1) with ⟨a3, x, a4, a5⟩ | ⟨d', a3, a4⟩
    · rcases at' (get_some h2) with ⟨b3, y, b4, b5⟩ | ⟨d', b3, b4⟩
      · rw [some_get a4] at h3; cases h3
        rw [some_get b4] at h4; cases h4
        exact R.apart i j c c' p hne a3 b3 a5 b5
      · cases b4
    · cases a4
theorem Rel.drop {j : Nat} (R : Rel K F H σ fm) : Rel K F H σ (fm.set j none) := by
  have f : ∀ {i : Nat} {s : S0}, (fm.set j none)[i]? = some (some s) → fm[i]? = some (some s) := fun {i s} h => by
    rcases get_set h with ⟨rfl, e, _⟩ | ⟨ne, h⟩
    · cases e
    · exact h
  exact ⟨R.sub, by rw [List.length_set]; exact R.len, fun i d h => R.dat i d (f h), fun i c h => R.own i c (f h), fun i k c c' p hne h1 h2 => R.apart i k c c' p hne (f h1) (f h2)⟩
theorem live_drop {j : Nat} {p : Addr} (h : Live σ (fm.set j none) p) : Live σ fm p := by
  obtain ⟨i, c, h1, h2⟩ := h
  rcases get_set h1 with ⟨rfl, e, _⟩ | ⟨ne, h1⟩
  · cases e
  · exact ⟨i, c, h1, h2⟩
theorem body_ok {n N : Nat} {m : MS} {r : SV} {x : Str} {Q : VK} (R0 : Rel K F H (sA xs) (fA as)) (hn : as.length = n)
    (hx : ∀ x F' H', Aft K (sA xs) F H (fA as) F' H' (fA outs) → VRel K F' H' (sA xs) (fA outs) r x → VNew H r x → Q x H')
    (h : mkD n N ro m as = some (r, outs)) (hro : ∀ i ∈ ro, i < n) : tS K ro m { nx := fun _ H' => Q .non H', rt := Q } (xs.map some ++ List.replicate (N - n) none) H := by
  unfold mkD at h
  rw [if_pos hn] at h
  have hl : as.length = xs.length := by
    have := R0.len
    rwa [List.length_map, List.length_map] at this
  have S := start_rel (n := N - n) R0
  split at h
  · rename_i v fm1 e1
    split at h
    · rename_i r' fm2 e2
      split at h
      · rename_i outs' e3
        cases h
        refine ⟨F, _, _, fm1, S, e1, fun σ' F' H' A y V Nw => ?_⟩
        have E : Ext (Live (sA xs) (fA as)) F H (Live σ' fm1) F' H' := ⟨A.ext.same, fun a o hl h => A.ext.keep a o (fun q => hl (live_pad q)) h, fun a o h => by
          rcases A.ext.new a o h with q | q | q
          · exact .inl q
          · exact .inr (.inl q)
          · exact .inr (.inr (live_pad q)), fun a h => by
          rcases A.ext.live a h with q | q
          · exact .inl (live_pad q)
          · exact .inr q, A.ext.grow⟩
        cases v with
        | dat d =>
          cases e2
          obtain ⟨B, L⟩ := leave_ok R0 E A.rel A.pin e3
          exact hx y F' H' B V VNew.dat
        | fre c =>
          cases e2
          obtain ⟨B, L⟩ := leave_ok R0 E A.rel A.pin e3
          obtain ⟨p, rfl, hf, hc, hnl⟩ := V
          exact hx _ F' H' B ⟨p, rfl, hf, hc, fun z => hnl (L p z)⟩ Nw
        | bor j =>
          simp only [retv] at e2
          split at e2
          · split at e2
            · rename_i d fm3 e4
              cases e2
              obtain ⟨F2, E2, _, s2, R2, D2, k2, _⟩ := frz_ok E A.rel V Nw e4
              obtain ⟨B, L⟩ := leave_ok R0 E2 R2 A.pin e3
              exact hx y F2 H' B D2 VNew.dat
            · cases e2
          · rename_i hj
            split at e2
            · rename_i c ec
              split at e2
              · rename_i hs
                cases e2
                obtain ⟨p, h1, hf, hc⟩ := A.rel.own j c ec
                obtain ⟨h2, _⟩ := V
                rw [h1] at h2; cases h2
                have E2 : Ext (Live (sA xs) (fA as)) F H (Live σ' (fm1.set j none)) F' H' := ⟨E.same, E.keep, E.new, fun a h => E.live a (live_drop h), E.grow⟩
                have hjl : j < fm1.length := by
                  obtain ⟨z, _⟩ := List.getElem?_eq_some_iff.mp ec
                  exact z
                obtain ⟨B, L⟩ := leave_ok R0 E2 A.rel.drop A.pin e3
                refine hx _ F' H' B ⟨p, rfl, hf, hc, fun z => ?_⟩ fun q e => ?_
                · obtain ⟨i, c', a1, a2⟩ := L p z
                  rcases get_set a1 with ⟨rfl, e, _⟩ | ⟨ne, a1⟩
                  · cases e
                  · exact A.rel.apart j i c c' p ne ec a1 h1 a2
                · cases e
                  rcases E.live p ⟨j, c, ec, h1⟩ with z | z
                  · obtain ⟨k, c', a1, a2⟩ := live_args z
                    obtain ⟨c2, a3⟩ := ownsStay_get hs a1
                    rw [Nat.zero_add] at a3
                    have hk : k < as.length := by
                      obtain ⟨z, _⟩ := List.getElem?_eq_some_iff.mp a1
                      exact z
                    obtain ⟨o, ho⟩ : ∃ o, outs[k]? = some o := by
                      have := outsFrom_len e3
                      exact ⟨outs[k]'(by omega), by simp⟩
                    obtain ⟨a, b1, b2⟩ := outsFrom_get e3 ho
                    rw [Nat.zero_add] at b2
                    rw [a1] at b1; cases b1
                    rcases outAt_cases b2 with ⟨b3, b4⟩ | ⟨d, b3, _⟩
                    · have : σ'[k]? = some (some (.ref p)) := by
                        rw [A.pin k b3]; exact get_pad a2
                      exact absurd this (A.rel.apart j k c c2 p (by omega) ec a3 h1)
                    · cases b3
                  · exact z
              · cases e2
            · rename_i d ed
              cases e2
              obtain ⟨z, h1, h2⟩ := A.rel.dat j d ed
              obtain ⟨h3, _⟩ := V
              rw [h1] at h3; cases h3
              obtain ⟨B, L⟩ := leave_ok R0 E A.rel A.pin e3
              exact hx _ F' H' B h2 VNew.dat
            · cases e2
      · cases h
    · cases h
  · rename_i fm1 e1
    split at h
    · rename_i outs' e3
      cases h
      refine ⟨F, _, _, fm1, S, e1, fun σ' F' H' A => ?_⟩
      have E : Ext (Live (sA xs) (fA as)) F H (Live σ' fm1) F' H' := ⟨A.ext.same, fun a o hl h => A.ext.keep a o (fun q => hl (live_pad q)) h, fun a o h => by
        rcases A.ext.new a o h with q | q | q
        · exact .inl q
        · exact .inr (.inl q)
        · exact .inr (.inr (live_pad q)), fun a h => by
        rcases A.ext.live a h with q | q
        · exact .inl (live_pad q)
        · exact .inr q, A.ext.grow⟩
      obtain ⟨B, L⟩ := leave_ok R0 E A.rel A.pin e3
      exact hx _ F' H' B .non VNew.dat
    · cases h
  · cases h
end
section
variable {P : Program} {w : World} {K : PySem.W.Frag} {mg : Str → Option Value} {base : Heap}
theorem fn_ok {x qual : Str} {st : Stmt} {f : Addr} {fd : FuncData} {N ps : List Str} {k : Nat} {ro : List Nat} {m : MS} (Fn : Fun K x qual st f fd) (S : FnScope N ps (defScope st)) (hro : ∀ i ∈ ro, i < ps.length)
    (hb : ∀ (cdv : Value) (A : Around) (outer : List Env) (s : Shared) (H : Hp) (E : XK), Room k (A.deeper (PyProof.Rows.envOfC qual (defScope st) s.heap.objs.size f cdv)) → SSs (cxOf CX0 P w K mg base N qual (defScope st) f cdv A outer s H E).nox ro (defBody st) m) :
    FnOk P w K mg base CX0 (k + 1) f fd ps (spM K (mkD ps.length N.length ro m)) := by
  refine Fn.ok S (fun vs H Q E h => ?_) fun cdv A outer s H vs Q E hr h => ?_
  · obtain ⟨F, as, r, outs, R, em, _⟩ := h
    have := R.len
    rw [List.length_map, List.length_map] at this
    rw [← this]
    unfold mkD at em
    split at em
    · assumption
    · cases em
  · obtain ⟨F, as, r, outs, R, em, q⟩ := h
    have hl : as.length = vs.length := by
      have := R.len
      rwa [List.length_map, List.length_map] at this
    have hn : as.length = ps.length := by
      unfold mkD at em
      split at em
      · assumption
      · cases em
    refine ⟨_, hb cdv A outer s H E hr, ?_⟩
    have := body_ok (x := x) R hn q em hro
    unfold L2.start
    rw [← hl, hn]
    exact this
end
end Rf

namespace Rf
open PySem L2

/-! ### comprehensions -/
def wipeF (fm : Fm) : List Nat → Fm
  | [] => fm
  | v :: vs => (wipeF fm vs).set v none
/-- behind the block: its names as they were (data alone) -/
def unwipe (fm0 fm : Fm) : List Nat → Option Fm
  | [] => some fm
  | v :: vs => match unwipe fm0 fm vs with
    | none => none
    | some fm' => match fm0[v]? with
      | some (some (.dat d)) => some (fm'.set v (some (.dat d)))
      | some (some (.own _)) => none
      | _ => some (fm'.set v none)
def compM (g : MG) (mt : MT) (me : ME) (vs : List Nat) : List PyData → Fm → List PyData → Option (List PyData × Fm)
  | [], fm, acc => some (acc, fm)
  | d :: ds, fm, acc => match g d fm with
    | none => none
    | some fm1 => match mt fm1 with
      | none => none
      | some (false, fm2) => compM g mt me vs ds (wipeF fm2 vs) acc
      | some (true, fm2) => match me fm2 with
        | none => none
        | some (v, fm3) => match frz v fm3 with
          | none => none
          | some (d', fm4) => if acc.length < sizeLine then compM g mt me vs ds (wipeF fm4 vs) (acc ++ [d']) else none
/-- n: the names' number -/
def mLc (n : Nat) (mi : MI) (g : MG) (mt : MT) (me : ME) (vs : List Nat) : ME := fun fm => match mi fm with
  | none => none
  | some (ds, fm1) => if fm.length ≤ n then (match compM g mt me vs ds (wipeF fm1 vs) [] with
    | none => none
    | some (acc, fm2) => match unwipe fm1 fm2 vs with
      | none => none
      | some fm3 => some (.fre (.lst acc), fm3)) else none
def GOk (g : MG) : Prop := ∀ d fm fm', g d fm = some fm' → fm'.length = fm.length ∧ Keeps fm fm'
section
variable {K : PySem.W.Frag} {F F' F0 F1 H H' H0 H1 : Hp} {σ σ' σ0 : L2.St} {fm fm0 fm1 fm' : Fm}
theorem wipeF_len : ∀ vs : List Nat, (wipeF fm vs).length = fm.length
  | [] => rfl
  | v :: vs => by unfold wipeF; rw [List.length_set, wipeF_len vs]
theorem wipeF_some {i : Nat} {s : S0} : ∀ {vs : List Nat}, (wipeF fm vs)[i]? = some (some s) → fm[i]? = some (some s) ∧ i ∉ vs
  | [], h => ⟨h, by simp⟩
  | v :: vs, h => by
    unfold wipeF at h
    rcases get_set h with ⟨rfl, e, _⟩ | ⟨ne, h⟩
    · cases e
    · obtain ⟨h1, h2⟩ := wipeF_some h
      exact ⟨h1, by simp only [List.mem_cons, not_or]; exact ⟨fun e => ne e.symm, h2⟩⟩
theorem wipeF_out {i : Nat} : ∀ {vs : List Nat}, i ∉ vs → (wipeF fm vs)[i]? = fm[i]?
  | [], _ => rfl
  | v :: vs, h => by
    simp only [List.mem_cons, not_or] at h
    unfold wipeF
    rw [List.getElem?_set_ne fun e => h.1 e.symm]
    exact wipeF_out h.2
theorem wipe_in {i : Nat} : ∀ {vs : List Nat}, i ∈ vs → i < σ.length → (wipe σ vs)[i]? = some none
  | v :: vs, h, hl => by
    unfold wipe
    by_cases e : v = i
    · subst e; exact List.getElem?_set_self (by rw [wipe_length]; exact hl)
    · rw [List.getElem?_set_ne e]
      rcases List.mem_cons.mp h with h | h
      · exact absurd h.symm e
      · exact wipe_in h hl
theorem wipe_eq {vs : List Nat} (hl : σ'.length = σ.length) (h : ∀ i, i < σ.length → i ∉ vs → σ'[i]? = σ[i]?) : wipe σ' vs = wipe σ vs := by
  apply List.ext_getElem?
  intro i
  by_cases hi : i < σ.length
  · by_cases hv : i ∈ vs
    · rw [wipe_in hv hi, wipe_in hv (by omega)]
    · rw [wipe_out hv, wipe_out hv, h i hi hv]
  · rw [List.getElem?_eq_none (by rw [wipe_length]; omega), List.getElem?_eq_none (by rw [wipe_length]; omega)]
theorem Rel.wipe {vs : List Nat} (R : Rel K F H σ fm) : Rel K F H (L2.wipe σ vs) (wipeF fm vs) := by
  refine ⟨R.sub, by rw [wipeF_len, wipe_length]; exact R.len, fun i d h => ?_, fun i c h => ?_, fun i j c c' p hne h1 h2 h3 h4 => ?_⟩
  · obtain ⟨h1, h2⟩ := wipeF_some h
    rw [wipe_out h2]; exact R.dat i d h1
  · obtain ⟨h1, h2⟩ := wipeF_some h
    rw [wipe_out h2]; exact R.own i c h1
  · obtain ⟨a1, a2⟩ := wipeF_some h1
    obtain ⟨b1, b2⟩ := wipeF_some h2
    rw [wipe_out a2] at h3
    rw [wipe_out b2] at h4
    exact R.apart i j c c' p hne a1 b1 h3 h4
theorem live_wipe {vs : List Nat} {p : Addr} (h : Live (L2.wipe σ vs) (wipeF fm vs) p) : Live σ fm p := by
  obtain ⟨i, c, h1, h2⟩ := h
  obtain ⟨a1, a2⟩ := wipeF_some h1
  rw [wipe_out a2] at h2
  exact ⟨i, c, a1, h2⟩
theorem unwipe_len : ∀ {vs : List Nat} {fm' : Fm}, unwipe fm0 fm vs = some fm' → fm'.length = fm.length
  | [], _, h => by cases h; rfl
  | v :: vs, fm', h => by
    simp only [unwipe] at h
    split at h
    · cases h
    · rename_i f1 e1
      have := unwipe_len e1
      split at h <;> cases h <;> simpa using this
theorem unwipe_get {i : Nat} {s : S0} : ∀ {vs : List Nat} {fm' : Fm}, unwipe fm0 fm vs = some fm' → fm'[i]? = some (some s) → (i ∈ vs ∧ fm0[i]? = some (some s) ∧ ∃ d, s = .dat d) ∨ (i ∉ vs ∧ fm[i]? = some (some s))
  | [], _, h, e => by cases h; exact .inr ⟨by simp, e⟩
  | v :: vs, fm', h, e => by
    simp only [unwipe] at h
    split at h
    · cases h
    · rename_i f1 e1
      have go : ∀ {o : Option S0}, fm' = f1.set v o → (i = v ∧ o = some s) ∨ (i ≠ v ∧ ((i ∈ vs ∧ fm0[i]? = some (some s) ∧ ∃ d, s = .dat d) ∨ (i ∉ vs ∧ fm[i]? = some (some s)))) := fun {o} ef => by
        rw [ef] at e
        rcases get_set e with ⟨a1, a2, _⟩ | ⟨a1, a2⟩
        · exact .inl ⟨a1.symm, a2.symm⟩
        · exact .inr ⟨fun z => a1 z.symm, unwipe_get e1 a2⟩
      split at h
      · rename_i d ed
        cases h
        rcases go rfl with ⟨rfl, a2⟩ | ⟨a1, a2 | ⟨a2, a3⟩⟩
        · cases a2; exact .inl ⟨by simp, ed, d, rfl⟩
        · exact .inl ⟨List.mem_cons_of_mem _ a2.1, a2.2⟩
        · exact .inr ⟨by simp only [List.mem_cons, not_or]; exact ⟨a1, a2⟩, a3⟩
      · cases h
      · cases h
        rcases go rfl with ⟨rfl, a2⟩ | ⟨a1, a2 | ⟨a2, a3⟩⟩
        · cases a2
        · exact .inl ⟨List.mem_cons_of_mem _ a2.1, a2.2⟩
        · exact .inr ⟨by simp only [List.mem_cons, not_or]; exact ⟨a1, a2⟩, a3⟩
theorem unwipe_keep {i : Nat} {s : S0} : ∀ {vs : List Nat} {fm' : Fm}, unwipe fm0 fm vs = some fm' → fm0.length = fm.length → fm0[i]? = some (some s) → (i ∉ vs → ∃ s', fm[i]? = some (some s')) → ∃ s', fm'[i]? = some (some s')
  | [], _, h, _, e, k => by cases h; exact k (by simp)
  | v :: vs, fm', h, hl, e, k => by
    simp only [unwipe] at h
    split at h
    · cases h
    · rename_i f1 e1
      have hf1 := unwipe_len e1
      have hi : i < fm0.length := by
        obtain ⟨z, _⟩ := List.getElem?_eq_some_iff.mp e
        exact z
      by_cases hv : v = i
      · subst hv
        rw [e] at h
        cases s with
        | dat d =>
          cases h
          exact ⟨_, List.getElem?_set_self (by omega)⟩
        | own c => cases h
      · obtain ⟨s', hs'⟩ := unwipe_keep e1 hl e fun hn => k (by simp only [List.mem_cons, not_or]; exact ⟨fun z => hv z.symm, hn⟩)
        split at h
        · cases h; exact ⟨s', by rw [List.getElem?_set_ne hv]; exact hs'⟩
        · cases h
        · cases h; exact ⟨s', by rw [List.getElem?_set_ne hv]; exact hs'⟩
/-- an object that no slot holds changes -/
theorem Rel.updD {D : Addr} {o : HO} (R : Rel K F H σ fm) (hf : F D = none) (hl : ¬ Live σ fm D) : Rel K F (upd H D o) σ fm := by
  refine ⟨fun b u q => ?_, R.len, R.dat, fun i c h => ?_, R.apart⟩
  · have ne : b ≠ D := fun e => by subst e; rw [hf] at q; cases q
    rw [upd_ne ne]; exact R.sub _ _ q
  · obtain ⟨p, h1, h2, h3⟩ := R.own i c h
    have ne : p ≠ D := fun e => hl (by subst e; exact ⟨i, c, h, h1⟩)
    exact ⟨p, h1, h2, h3.mono (Same.refl _) fun u q => by rw [upd_ne ne]; exact q⟩
/-- an object outside stays outside -/
theorem Ext.outF {L L' : Addr → Prop} {D : Addr} {o : HO} (E : Ext L F H L' F' H') (hf : F D = none) (hl : ¬ L D) (ho : H D = some o) : F' D = none ∧ ¬ L' D ∧ H' D = some o := by
  refine ⟨?_, fun q => ?_, E.keep D o hl ho⟩
  · cases q : F' D with
    | none => rfl
    | some u =>
      rcases E.new D u q with z | z | z
      · rw [hf] at z; cases z
      · rw [ho] at z; cases z
      · exact absurd z hl
  · rcases E.live D q with z | z
    · exact hl z
    · rw [ho] at z; cases z
/-- what a comprehension has come to, behind some turns -/
structure CompAt (K : PySem.W.Frag) (σ : L2.St) (F H : Hp) (fm1 : Fm) (vs : List Nat) (F1 : Hp) (D : Addr) (Hc : Hp) (fmc : Fm) (acc : List PyData) : Prop where
  at' : ∃ Fc accV, Ext (Live σ fm1) F1 H (Live (L2.wipe σ vs) fmc) Fc Hc ∧ Rel K Fc Hc (L2.wipe σ vs) fmc ∧ Fc D = none ∧ ¬ Live (L2.wipe σ vs) fmc D ∧ Hc D = some (.lst accV) ∧ DqAll K Fc accV acc
  len : fmc.length = fm1.length
  kp : ∀ i s, i ∉ vs → fm1[i]? = some (some s) → ∃ s', fmc[i]? = some (some s')
theorem tE_lc {Rl : RLT} {n : Nat} {mi : MI} {ro : List Nat} {g : MG} {mt : MT} {me : ME} {vs : List Nat} {Q : VK} (hg : GOk g) (hro : ∀ i, i < n → i ∈ ro ∨ i ∈ vs) (h : tE K (mLc n mi g mt me vs) σ H Q) : tLc (tI K Rl mi) (tG K Rl ro g) (tT K mt) (tE K me) vs σ H Q := by
  obtain ⟨F, fm, v, fm', R, em, q⟩ := h
  unfold mLc at em
  split at em
  · cases em
  · rename_i ds fm1 e1
    split at em
    · rename_i hn
      split at em
      · cases em
      · rename_i acc fm2 e2
        split at em
        · cases em
        · rename_i fm3 e3
          cases em
          refine ⟨F, fm, ds, fm1, R, e1, fun J F1 H1 A1 IO D hD => ?_⟩
          have hσn : σ.length ≤ n := by rw [← R.len]; exact hn
          refine ⟨fun i m Hc => m = ds.length - i ∧ i ≤ ds.length ∧ ∃ fmc accc, CompAt K σ F H1 fm1 vs F1 D Hc fmc accc ∧ Same F1 F1 ∧ compM g mt me vs (ds.drop i) fmc accc = some (acc, fm2), ⟨ds.length, rfl, Nat.zero_le _, wipeF fm1 vs, [], ⟨⟨F1, [], ?_, ?_, ?_, ?_, upd_same, .nil⟩, wipeF_len _, fun i s hi h => ⟨s, by rw [wipeF_out hi]; exact h⟩⟩, Same.refl _, e2⟩, ?_⟩
          · have a := (Aft.lay (o := HO.lst []) A1.rel hD)
            exact ⟨Same.refl _, a.ext.keep, a.ext.new, fun p h => .inl (live_wipe h), a.ext.grow⟩
          · exact (Aft.lay A1.rel hD).rel.wipe
          · exact A1.rel.fnone hD
          · exact fun z => A1.rel.nolive hD (live_wipe z)
          · rintro i m Hc ⟨rfl, hi, fmc, accc, ⟨⟨Fc, accV, E, Rc, hfD, hlD, hHD, hacc⟩, hlen, hkp⟩, _, el⟩
            by_cases hlt : i < ds.length
            · refine .inr ⟨IO.go i Hc (E.same.trans Rc.sub) hlt, fun H' => (i + 1 ≤ ds.length ∧ ∃ fmc accc, CompAt K σ F H1 fm1 vs F1 D H' fmc accc ∧ Same F1 F1 ∧ compM g mt me vs (ds.drop (i + 1)) fmc accc = some (acc, fm2)), fun H' p => ⟨ds.length - (i + 1), by omega, rfl, p.1, p.2⟩, fun x H' y => ?_⟩
              obtain ⟨F2, G, Dx⟩ := IO.yld i ds[i] Fc Hc x H' (by simp [hlt]) E.same Rc.sub y
              have A2 := G.aft Rc
              rw [List.drop_eq_getElem_cons hlt] at el
              simp only [compM] at el
              split at el
              · cases el
              · rename_i fmg eg
                obtain ⟨gl, gk⟩ := hg _ _ _ eg
                refine ⟨F2, fmc, ds[i], fmg, A2.rel, Dx, eg, fun σ2 F3 H3 A3 => ⟨?_, ?_⟩⟩
                · have hlw : σ2.length = (L2.wipe σ vs).length := by rw [← A3.rel.len, gl, A2.rel.len]
                  have : L2.wipe σ2 vs = L2.wipe (L2.wipe σ vs) vs := wipe_eq hlw fun j hj hv => A3.pin j ((hro j (by rw [wipe_length] at hj; omega)).resolve_right hv)
                  rw [this]
                  exact wipe_eq (wipe_length _ _) fun j hj hv => wipe_out hv
                · have hw : L2.wipe σ2 vs = L2.wipe σ vs := by
                    have hlw : σ2.length = (L2.wipe σ vs).length := by rw [← A3.rel.len, gl, A2.rel.len]
                    have : L2.wipe σ2 vs = L2.wipe (L2.wipe σ vs) vs := wipe_eq hlw fun j hj hv => A3.pin j ((hro j (by rw [wipe_length] at hj; omega)).resolve_right hv)
                    rw [this]
                    exact wipe_eq (wipe_length _ _) fun j hj hv => wipe_out hv
                  have E3 := (E.trans A2.ext).trans A3.ext
                  obtain ⟨d1, d2, d3⟩ := (A2.ext.trans A3.ext).outF hfD hlD hHD
                  split at el
                  · cases el
                  · rename_i fm4 e4
                    refine ⟨F3, fmg, _, fm4, A3.rel, e4, fun F4 H4 A4 => ?_⟩
                    refine iteF ⟨hlt, wipeF fm4 vs, accc, ⟨⟨F4, accV, ?_, ?_, ?_, ?_, ?_, ?_⟩, ?_, ?_⟩, Same.refl _, el⟩
                    · have E4 := E3.trans A4.ext
                      exact ⟨E4.same, E4.keep, E4.new, fun p h => E4.live p (by rw [← hw] at h; exact live_wipe h), E4.grow⟩
                    · rw [← hw]; exact A4.rel.wipe
                    · exact (A4.ext.outF d1 d2 d3).1
                    · intro z; rw [← hw] at z; exact (A4.ext.outF d1 d2 d3).2.1 (live_wipe z)
                    · exact (A4.ext.outF d1 d2 d3).2.2
                    · exact dpAll_mono ((A2.ext.same.trans A3.ext.same).trans A4.ext.same) hacc
                    · rw [wipeF_len, A4.rel.len, ← A3.rel.len, gl, hlen]
                    · intro j s hj hs
                      obtain ⟨s1, h1⟩ := hkp j s hj hs
                      obtain ⟨s2, h2⟩ := gk j s1 h1
                      obtain ⟨s3, h3⟩ := A4.kp j s2 h2
                      exact ⟨s3, by rw [wipeF_out hj]; exact h3⟩
                  · rename_i fm4 e4
                    refine ⟨F3, fmg, _, fm4, A3.rel, e4, fun F4 H4 A4 => iteT ?_⟩
                    obtain ⟨k1, k2, k3⟩ := A4.ext.outF d1 d2 d3
                    split at el
                    · cases el
                    · rename_i v5 fm5 e5
                      split at el
                      · cases el
                      · rename_i d6 fm6 e6
                        split at el
                        · rename_i hz
                          refine ⟨F4, fm4, v5, fm5, A4.rel, e5, fun y H5F H5 A5 V5 N5 => ?_⟩
                          obtain ⟨F6, E6, Ea6, s6, R6, D6, kp6, nw6⟩ := frz_ok A5.ext A5.rel V5 N5 e6
                          obtain ⟨j1, j2, j3⟩ := A5.ext.outF k1 k2 k3
                          obtain ⟨l1, l2, _⟩ := E6.outF k1 k2 k3
                          refine ⟨accV, j3, by rw [dpAll_len hacc]; exact hz, hlt, wipeF fm6 vs, accc ++ [d6], ⟨⟨F6, accV ++ [y], ?_, ?_, l1, ?_, upd_same, ?_⟩, ?_, ?_⟩, Same.refl _, el⟩
                          · have E7 := (E3.trans A4.ext).trans E6
                            have hD1 : H1 D = none := hD
                            have hnl1 : ¬ Live σ fm1 D := A1.rel.nolive hD1
                            refine ⟨E7.same, fun a o hl h => ?_, E7.new, fun p h => E7.live p (by rw [← hw] at h; exact live_wipe h), fun a h => ?_⟩
                            · have ne : a ≠ D := fun z => by subst z; rw [hD1] at h; cases h
                              rw [upd_ne ne]; exact E7.keep a o hl h
                            · by_cases z : a = D
                              · subst z; exact hD1
                              · rw [upd_ne z] at h; exact E7.grow a h
                          · have R7 := R6.updD (o := HO.lst (accV ++ [y])) l1 l2
                            rw [← hw]; exact R7.wipe
                          · intro z; rw [← hw] at z; exact l2 (live_wipe z)
                          · exact dpAll_app (dpAll_mono (((A2.ext.same.trans A3.ext.same).trans A4.ext.same).trans E6.same) hacc) (.cons D6 .nil)
                          · rw [wipeF_len, R6.len, ← A3.rel.len, gl, hlen]
                          · intro j s hj hs
                            obtain ⟨s1, h1⟩ := hkp j s hj hs
                            obtain ⟨s2, h2⟩ := gk j s1 h1
                            obtain ⟨s3, h3⟩ := A4.kp j s2 h2
                            obtain ⟨s4, h4⟩ := A5.kp j s3 h3
                            obtain ⟨s5, h5⟩ := kp6 j s4 h4
                            exact ⟨s5, by rw [wipeF_out hj]; exact h5⟩
                        · cases el
            · have e : i = ds.length := by omega
              subst e
              rw [List.drop_length] at el
              cases el
              refine .inl ⟨IO.stop Hc (E.same.trans Rc.sub), ?_⟩
              have E2 := A1.ext
              have hsl : ∀ {i : Nat} {s : S0}, fm'[i]? = some (some s) → (i ∈ vs ∧ fm1[i]? = some (some s) ∧ ∃ d, s = .dat d) ∨ (i ∉ vs ∧ fm2[i]? = some (some s)) := fun {i s} => unwipe_get e3
              have lv : ∀ p, Live σ fm' p → Live (L2.wipe σ vs) fm2 p := fun p ⟨i, c, h1, h2⟩ => by
                rcases hsl h1 with ⟨_, _, d, z⟩ | ⟨h3, h4⟩
                · cases z
                · exact ⟨i, c, h4, by rw [wipe_out h3]; exact h2⟩
              refine q _ Fc Hc ⟨E2.trans ⟨E.same, E.keep, E.new, fun p h => E.live p (lv p h), E.grow⟩, fun i s h => ?_, ⟨Rc.sub, ?_, fun i d h => ?_, fun i c h => ?_, fun i j c c' p hne h1 h2 h3 h4 => ?_⟩⟩ ⟨D, rfl, hfD, ⟨accV, hHD, hacc⟩, fun z => hlD (lv D z)⟩ (VNew.ref (A1.ext.grow D hD))
              · obtain ⟨s1, h1⟩ := A1.kp i s h
                exact unwipe_keep e3 hlen.symm h1 fun hv => hkp i s1 hv h1
              · rw [unwipe_len e3, hlen]; exact A1.rel.len
              · rcases hsl h with ⟨_, h1, _⟩ | ⟨h1, h2⟩
                · obtain ⟨y, h3, h4⟩ := A1.rel.dat i d h1
                  exact ⟨y, h3, dp_mono E.same h4⟩
                · obtain ⟨y, h3, h4⟩ := Rc.dat i d h2
                  rw [wipe_out h1] at h3
                  exact ⟨y, h3, h4⟩
              · rcases hsl h with ⟨_, _, d, z⟩ | ⟨h1, h2⟩
                · cases z
                · obtain ⟨y, h3, h4⟩ := Rc.own i c h2
                  rw [wipe_out h1] at h3
                  exact ⟨y, h3, h4⟩
              · rcases hsl h1 with ⟨_, _, d, z⟩ | ⟨a1, a2⟩
                · cases z
                · rcases hsl h2 with ⟨_, _, d, z⟩ | ⟨b1, b2⟩
                  · cases z
                  · exact Rc.apart i j c c' p hne a2 b2 (by rw [wipe_out a1]; exact h3) (by rw [wipe_out b1]; exact h4)
    · cases em
end
end Rf

namespace Rf
open PySem L2

/-! ### numbers -/
section
variable {K : PySem.W.Frag}
def fI (C : Int → Int → Bool) (g : Int → Int → PyData) : F2 := fun va vb fm => match peek va fm, peek vb fm with
  | some (.int i), some (.int j) => if C i j then some (.dat (g i j), fm) else none
  | _, _ => none
theorem fI_inv {C : Int → Int → Bool} {g : Int → Int → PyData} {va vb v : SV} {fm fm' : Fm} (h : fI C g va vb fm = some (v, fm')) : ∃ i j, peek va fm = some (.int i) ∧ peek vb fm = some (.int j) ∧ C i j = true ∧ v = .dat (g i j) ∧ fm' = fm := by
  unfold fI at h
  split at h
  · rename_i i j h1 h2
    split at h
    · rename_i hc
      cases h
      exact ⟨i, j, h1, h2, hc, rfl, rfl⟩
    · cases h
  · cases h
theorem prim_I {C : Int → Int → Prop} {Cb : Int → Int → Bool} {g : Int → Int → V} {gd : Int → Int → PyData} (hC : ∀ i j, Cb i j = true → C i j) (hg : ∀ K F i j, Dq K F (g i j) (gd i j)) : Prim2 K (rI C g) (fI Cb gd) := by
  intro F H σ fm fm' va vb x y v R Va Vb h Q q
  obtain ⟨i, j, h1, h2, hc, rfl, rfl⟩ := fI_inv h
  exact ⟨i, j, peek_int R Va h1, peek_int R Vb h2, hC i j hc, q _ F H (Aft.refl R) (hg _ _ _ _) VNew.dat⟩
def cY : Int → Int → Bool := fun _ _ => true
theorem prim_I0 {g : Int → Int → V} {gd : Int → Int → PyData} (hg : ∀ K F i j, Dq K F (g i j) (gd i j)) : Prim2 K (rI0 g) (fI cY gd) := by
  intro F H σ fm fm' va vb x y v R Va Vb h Q q
  obtain ⟨i, j, h1, h2, hc, rfl, rfl⟩ := fI_inv h
  exact ⟨i, j, peek_int R Va h1, peek_int R Vb h2, q _ F H (Aft.refl R) (hg _ _ _ _) VNew.dat⟩
def fAdd : F2 := fI cY fun i j => .int (i + j)
def fSub : F2 := fI cY fun i j => .int (i - j)
def cMul : Int → Int → Bool := fun i j => (decide (-(2 ^ 64) < i) && decide (i < 2 ^ 64)) || (decide (-(2 ^ 64) < j) && decide (j < 2 ^ 64))
def fMul : F2 := fI cMul fun i j => .int (i * j)
def cMod : Int → Int → Bool := fun _ j => decide (0 < j)
def fMod : F2 := fI cMod fun i j => .int (i % j)
def cDiv : Int → Int → Bool := fun _ j => decide (0 < j) && decide (j < 1073741824)
def fDiv : F2 := fI cDiv fun i j => .int (i / j)
def cPow : Int → Int → Bool := fun i j => decide (0 ≤ j) && decide (j ≤ 1000000) && decide (i.natAbs < 2 ^ 64)
def fPow : F2 := fI cPow fun i j => .int (i ^ j.toNat)
def fLt : F2 := fI cY fun i j => .bool (decide (i < j))
def fLe : F2 := fI cY fun i j => .bool (decide (i ≤ j))
def fGt : F2 := fI cY fun i j => .bool (decide (i > j))
def fGe : F2 := fI cY fun i j => .bool (decide (i ≥ j))
theorem p_add : Prim2 K (rI0 fun i j => .int (i + j)) fAdd := prim_I0 fun _ _ _ _ => .int _
theorem p_sub : Prim2 K (rI0 fun i j => .int (i - j)) fSub := prim_I0 fun _ _ _ _ => .int _
theorem p_mul : Prim2 K (rI CMul fun i j => .int (i * j)) fMul := prim_I (fun i j h => by
  simp only [cMul, Bool.or_eq_true, Bool.and_eq_true, decide_eq_true_eq] at h; exact h) fun _ _ _ _ => .int _
theorem p_mod : Prim2 K (rI (fun _ j => 0 < j) fun i j => .int (i % j)) fMod := prim_I (fun i j h => by
  simpa [cMod] using h) fun _ _ _ _ => .int _
theorem p_div : Prim2 K (rI CDiv fun i j => .int (i / j)) fDiv := prim_I (fun i j h => by
  simp only [cDiv, Bool.and_eq_true, decide_eq_true_eq] at h; exact h) fun _ _ _ _ => .int _
theorem p_pow : Prim2 K (rI CPow fun i j => .int (i ^ j.toNat)) fPow := prim_I (fun i j h => by
  simp only [cPow, Bool.and_eq_true, decide_eq_true_eq] at h; exact ⟨h.1.1, h.1.2, h.2⟩) fun _ _ _ _ => .int _
theorem p_lt : Prim2 K (rI0 fun i j => .bl (decide (i < j))) fLt := prim_I0 fun _ _ _ _ => .bl _
theorem p_le : Prim2 K (rI0 fun i j => .bl (decide (i ≤ j))) fLe := prim_I0 fun _ _ _ _ => .bl _
theorem p_gt : Prim2 K (rI0 fun i j => .bl (decide (i > j))) fGt := prim_I0 fun _ _ _ _ => .bl _
theorem p_ge : Prim2 K (rI0 fun i j => .bl (decide (i ≥ j))) fGe := prim_I0 fun _ _ _ _ => .bl _
/-! ### == and != of any data -/
def fEq : F2 := fun va vb fm => match peek va fm, peek vb fm with
  | some d, some e => if SeqAt.shaped d && SeqAt.shaped e then some (.dat (.bool (PyData.eqv d e)), fm) else none
  | _, _ => none
def fNe : F2 := fun va vb fm => match peek va fm, peek vb fm with
  | some d, some e => if SeqAt.shaped d && SeqAt.shaped e then some (.dat (.bool (!PyData.eqv d e)), fm) else none
  | _, _ => none
theorem p_eq : Prim2 K (rEqD K) fEq := by
  intro F H σ fm fm' va vb x y v R Va Vb h Q q
  unfold fEq at h
  split at h
  · rename_i d e h1 h2
    split at h
    · rename_i hc
      cases h
      simp only [Bool.and_eq_true] at hc
      exact ⟨d, e, (peek_dp R Va h1).dp, (peek_dp R Vb h2).dp, hc.1, hc.2, q _ F H (Aft.refl R) (.bl _) VNew.dat⟩
    · cases h
  · cases h
theorem p_ne : Prim2 K (rNeD K) fNe := by
  intro F H σ fm fm' va vb x y v R Va Vb h Q q
  unfold fNe at h
  split at h
  · rename_i d e h1 h2
    split at h
    · rename_i hc
      cases h
      simp only [Bool.and_eq_true] at hc
      exact ⟨d, e, (peek_dp R Va h1).dp, (peek_dp R Vb h2).dp, hc.1, hc.2, q _ F H (Aft.refl R) (.bl _) VNew.dat⟩
    · cases h
  · cases h
/-! ### is None, is True -/
def isNone : PyData → Bool
  | .none => true
  | _ => false
theorem isNone_dp {F : Hp} {x : V} {d : PyData} (h : Dq K F x d) : decide (x = V.non) = isNone d := by
  cases h <;> simp [isNone]
def fIsN : F2 := fun va vb fm => match peek va fm, peek vb fm with
  | some d, some .none => some (.dat (.bool (isNone d)), fm)
  | _, _ => none
def fNotN : F2 := fun va vb fm => match peek va fm, peek vb fm with
  | some d, some .none => some (.dat (.bool (!isNone d)), fm)
  | _, _ => none
theorem p_isN : Prim2 K (fun x y H Q => y = .non ∧ Q (.bl (decide (x = .non))) H) fIsN := by
  intro F H σ fm fm' va vb x y v R Va Vb h Q q
  unfold fIsN at h
  split at h
  · rename_i d h1 h2
    cases h
    refine ⟨peek_none R Vb h2, ?_⟩
    rw [isNone_dp (peek_dp R Va h1)]
    exact q _ F H (Aft.refl R) (.bl _) VNew.dat
  · cases h
theorem p_notN : Prim2 K (fun x y H Q => y = .non ∧ Q (.bl (!decide (x = .non))) H) fNotN := by
  intro F H σ fm fm' va vb x y v R Va Vb h Q q
  unfold fNotN at h
  split at h
  · rename_i d h1 h2
    cases h
    refine ⟨peek_none R Vb h2, ?_⟩
    rw [isNone_dp (peek_dp R Va h1)]
    exact q _ F H (Aft.refl R) (.bl _) VNew.dat
  · cases h
def fIsB : F2 := fun va vb fm => match peek va fm, peek vb fm with
  | some (.bool a), some (.bool b) => some (.dat (.bool (decide (a = b))), fm)
  | _, _ => none
theorem p_isB : Prim2 K rIsB fIsB := by
  intro F H σ fm fm' va vb x y v R Va Vb h Q q
  unfold fIsB at h
  split at h
  · rename_i a b h1 h2
    cases h
    exact ⟨a, b, peek_bool R Va h1, peek_bool R Vb h2, q _ F H (Aft.refl R) (.bl _) VNew.dat⟩
  · cases h
/-! ### items -/
theorem dpAll_atI {F : Hp} {vs : List V} {ds : List PyData} {i : Int} {d : PyData} (r : DqAll K F vs ds) (h : atI ds i = some d) : ∃ v, atI vs i = some v ∧ Dq K F v d := by
  unfold atI at h ⊢
  rw [dpAll_len r]
  cases e : ixN ds.length i with
  | none => rw [e] at h; cases h
  | some j =>
    rw [e] at h
    obtain ⟨v, h1, h2⟩ := dpAll_get r (show ds[j]? = some d from h)
    exact ⟨v, h1, h2⟩
def fIx : F2 := fun va vb fm => match peek va fm, peek vb fm with
  | some (.list ds), some (.int i) => (atI ds i).map fun d => (.dat d, fm)
  | some (.tuple ds), some (.int i) => (atI ds i).map fun d => (.dat d, fm)
  | _, _ => none
theorem p_ix : Prim2 K (rIx K) fIx := by
  intro F H σ fm fm' va vb x y v R Va Vb h Q q
  unfold fIx at h
  split at h
  · rename_i ds i h1 h2
    cases e : atI ds i with
    | none => rw [e] at h; cases h
    | some d =>
      rw [e] at h; cases h
      obtain ⟨a, vs, rfl, hs, r⟩ := peek_list R Va h1
      obtain ⟨z, h3, h4⟩ := dpAll_atI r e
      exact .inl ⟨a, vs, i, z, rfl, peek_int R Vb h2, hs, h3, q _ F H (Aft.refl R) h4 VNew.dat⟩
  · rename_i ds i h1 h2
    cases e : atI ds i with
    | none => rw [e] at h; cases h
    | some d =>
      rw [e] at h; cases h
      obtain ⟨a, vs, rfl, hs, r⟩ := peek_tup R Va h1
      obtain ⟨z, h3, h4⟩ := dpAll_atI r e
      exact .inr (.inl ⟨a, vs, i, z, rfl, peek_int R Vb h2, hs.1, h3, q _ F H (Aft.refl R) h4 VNew.dat⟩)
  · cases h
/-! ### lists and tuples joined -/
def rCatL (K : PySem.W.Frag) : R2 := fun x y H Q => ∃ l b xs zs, x = .ref l ∧ y = .ref b ∧ SqL K H l xs ∧ SqL K H b zs ∧ xs.length + zs.length ≤ sizeLine ∧ ∀ p, H p = none → Q (.ref p) (upd H p (.lst (xs ++ zs)))
end
section
variable {X : Cx}
theorem op_catL : OpR X (binaryOp .Add) (rCatL X.K) := by
  intro pins s σ H x y v u Q I rx ry h
  obtain ⟨l, b, xs, zs, rfl, rfl, hH, hB, hz, q⟩ := h
  cases rx
  cases ry
  obtain ⟨its, r, ⟨o, n, e, e1, e2, e3⟩, hl⟩ := I.list hH
  obtain ⟨its2, r2, ⟨o2, n2, f, f1, f2, f3⟩, hl2⟩ := I.list hB
  have h1 := r.length
  have h2 := r2.length
  obtain ⟨oc, od, odt, osl⟩ := o
  obtain ⟨oc2, od2, odt2, osl2⟩ := o2
  cases e1; cases e2; cases e3; cases f1; cases f2; cases f3
  refine PySem.concat_meets ⟨_, e, rfl⟩ ⟨_, f, rfl⟩ noFill_list_add seq_list_add PySem.F.slot_list_add PySem.F.entry_list_add (PySem.F.args_list_add_2 _ _) (PyProof.Rows.list_addW l b its.toArray its2.toArray n n2 _ _ osl osl2 (by rw [List.size_toArray, List.size_toArray]; omega)) ⟨e, f, ?_⟩
  have ea : its.toArray ++ its2.toArray = (its ++ its2).toArray := by simp
  rw [ea]
  exact ⟨.ref _, _, I.lnew (t' := s.toks) (r.append r2) (by rw [List.length_append]; omega), rfl, q _ I.fresh⟩
/-- tuples joined: the result is known to be plain -/
def rCatP (K : PySem.W.Frag) : R2 := fun x y H Q => ∃ a b xs ys, x = .ref a ∧ y = .ref b ∧ SqT K H a xs ∧ SqT K H b ys ∧ xs.length + ys.length ≤ sizeLine ∧
  (xs = [] → Q (.ref b) H) ∧ (xs ≠ [] → ys = [] → Q (.ref a) H) ∧ (xs ≠ [] → ys ≠ [] → rNewP (xs ++ ys) H Q)
theorem op_catP : OpR X (binaryOp .Add) (rCatP X.K) := by
  intro pins s σ H x y v u Q I rx ry h
  obtain ⟨a, b, xs, ys, rfl, rfl, ha, hb, hz, k0, k1, k2⟩ := h
  cases rx
  cases ry
  obtain ⟨ia, r1, t1, _⟩ := I.tuple ha
  obtain ⟨ib, r2, t2, _⟩ := I.tuple hb
  by_cases hx : xs = []
  · subst hx
    cases r1
    exact cat_tup0 t1 t2 ⟨.ref b, H, I, rfl, k0 rfl⟩
  · refine HT.cat_tup t1 t2 (fun z => hx (r1.nil_iff.mp z)) (fun z => ⟨.ref a, H, I, rfl, k1 hx (r2.nil_iff.mp z)⟩) (fun z => ?_) (by rw [← r1.length, ← r2.length]; exact hz)
    have hl : (xs ++ ys).length ≤ sizeLine := by rw [List.length_append]; exact hz
    exact ⟨.ref s.heap.objs.size, _, inv_newP (t' := s.toks) I (r1.append r2) hl rfl, rfl, k2 hx (fun w => z (r2.nil_iff.mpr w)) _ _ (I.hok.fresh (Nat.le_refl _)) rfl⟩
/-- tuple(xs) -/
theorem call_tupleP : CallR X (.type "tuple") (fun xs H Q => ∃ p ys, xs = [.ref p] ∧ ((SqL X.K H p ys ∧ rNewP ys H Q) ∨ (SqT X.K H p ys ∧ Q (.ref p) H))) := by
  intro pins s σ H xs us Q I r h
  obtain ⟨p, ys, rfl, h⟩ := h
  obtain ⟨u, rfl, rx⟩ := vals1 r
  cases rx
  rcases h with ⟨hq, q⟩ | ⟨hq, q⟩
  · obtain ⟨its, r', pl, hz⟩ := I.list hq
    have hlen := r'.length
    refine call_tuple_list pl.isList (fun h' kp => ?_) (by simp only [List.size_toArray] <;> omega)
    have J : Inv X pins σ H { s with heap := h' } := I.kept (t' := s.toks) kp
    exact ⟨.ref h'.objs.size, _, inv_newP (t' := s.toks) J r' hz rfl, rfl, q _ _ (J.hok.fresh (Nat.le_refl _)) rfl⟩
  · obtain ⟨its, r', pl, hz⟩ := I.tuple hq
    exact call_tuple_same pl ⟨.ref p, H, I, rfl, q⟩
/-- t[lo:hi] -/
def rSlP (K : PySem.W.Frag) : V → Option Int → Option Int → Hp → VK → Prop := fun x lo hi H Q => ∃ a xs, x = .ref a ∧ SqT K H a xs ∧
  (HT.sIx xs.length 0 lo = 0 ∧ HT.sIx xs.length xs.length hi = xs.length → Q (.ref a) H) ∧ (¬ (HT.sIx xs.length 0 lo = 0 ∧ HT.sIx xs.length xs.length hi = xs.length) → rNewP (cutV xs lo hi) H Q)
theorem sl_tupP : SlR X (rSlP X.K) := by
  intro pins s σ H x v vl vu lo hi sl Q I rx hs pl pu h
  obtain ⟨a, xs, rfl, hx, k1, k2⟩ := h
  cases rx
  obtain ⟨its, r, ht, hz⟩ := I.tuple hx
  have hlen : its.toArray.size = xs.length := by rw [List.size_toArray]; exact r.length.symm
  refine ⟨"tuple", _, PyProof.Rows.slot_tuple_getitem.lookup, ht.typeIs, ?_⟩
  by_cases hw : HT.sIx xs.length 0 lo = 0 ∧ HT.sIx xs.length xs.length hi = xs.length
  · exact getItem_tuple_whole ht hs pl pu (by rw [hlen]; exact hw) ⟨.ref a, H, I, rfl, k1 hw⟩
  · refine HT.getItem_tuple_cut ht hs pl pu (by rw [hlen]; exact hw) ?_ (by rw [hlen]; exact hz)
    rw [hlen]
    have rr := (r.drop (HT.sIx xs.length 0 lo)).take (HT.sIx xs.length xs.length hi - HT.sIx xs.length 0 lo)
    exact ⟨.ref s.heap.objs.size, _, inv_newP (t' := s.toks) I rr (Nat.le_trans (cutV_length xs lo hi) hz) rfl, rfl, k2 hw _ _ (I.hok.fresh (Nat.le_refl _)) rfl⟩
end
end Rf

namespace Rf
open PySem L2

section
variable {X : Cx} {K : PySem.W.Frag}
theorem opr_or {f : Value → Value → Sem Value} {r r' : R2} (h : OpR X f r) (h' : OpR X f r') : OpR X f (fun x y H Q => r x y H Q ∨ r' x y H Q) := by
  intro pins s σ H x y v u Q I rx ry q
  rcases q with q | q
  · exact h pins s σ H x y v u Q I rx ry q
  · exact h' pins s σ H x y v u Q I rx ry q
def b2n (b : Bool) : Int := if b = true then 1 else 0
def rBI (g : Int → Int → Int) : R2 := fun x y H Q => ∃ b i, x = .bl b ∧ y = .int i ∧ Q (.int (g (b2n b) i)) H
def rIB (g : Int → Int → Int) : R2 := fun x y H Q => ∃ i b, x = .int i ∧ y = .bl b ∧ Q (.int (g i (b2n b))) H
theorem op_addBI : OpR X (binaryOp .Add) (rBI (· + ·)) := by
  intro pins s σ H x y v u Q I rx ry h
  obtain ⟨b, i, rfl, rfl, q⟩ := h
  obtain ⟨t, rfl⟩ := ry
  cases rx
  exact PySem.IntBool.add_bool_int ⟨.int _, H, I.tok _, ⟨_, rfl⟩, q⟩
theorem op_subBI : OpR X (binaryOp .Sub) (rBI (· - ·)) := by
  intro pins s σ H x y v u Q I rx ry h
  obtain ⟨b, i, rfl, rfl, q⟩ := h
  obtain ⟨t, rfl⟩ := ry
  cases rx
  exact PySem.IntBool.sub_bool_int ⟨.int _, H, I.tok _, ⟨_, rfl⟩, q⟩
theorem op_subIB : OpR X (binaryOp .Sub) (rIB (· - ·)) := by
  intro pins s σ H x y v u Q I rx ry h
  obtain ⟨b, i, rfl, rfl, q⟩ := h
  obtain ⟨t, rfl⟩ := rx
  cases ry
  exact PySem.IntBool.sub_int_bool ⟨.int _, H, I.tok _, ⟨_, rfl⟩, q⟩
/-! ### + -/
def rAddX (K : PySem.W.Frag) : R2 := fun x y H Q => rI0 (fun i j => .int (i + j)) x y H Q ∨ (rCatL K x y H Q ∨ (rCatP K x y H Q ∨ rBI (· + ·) x y H Q))
theorem op_addX : OpR X (binaryOp .Add) (rAddX X.K) := opr_or op_add (opr_or op_catL (opr_or op_catP op_addBI))
def fAddX : F2 := fun va vb fm => match peek va fm, peek vb fm with
  | some (.int i), some (.int j) => some (.dat (.int (i + j)), fm)
  | some (.list as), some (.list bs) => if as.length + bs.length ≤ sizeLine then some (.fre (.lst (as ++ bs)), fm) else none
  | some (.tuple as), some (.tuple bs) => if as.length + bs.length ≤ sizeLine then some (.dat (.tuple (as ++ bs)), fm) else none
  | some (.bool b), some (.int j) => some (.dat (.int (b2n b + j)), fm)
  | _, _ => none
theorem p_addX : Prim2 K (rAddX K) fAddX := by
  intro F H σ fm fm' va vb x y v R Va Vb h Q q
  unfold fAddX at h
  split at h
  · rename_i i j h1 h2
    cases h
    exact .inl ⟨i, j, peek_int R Va h1, peek_int R Vb h2, q _ F H (Aft.refl R) (.int _) VNew.dat⟩
  · rename_i as bs h1 h2
    split at h
    · rename_i hl
      cases h
      obtain ⟨a, xs, rfl, s1, r1⟩ := peek_list R Va h1
      obtain ⟨b, ys, rfl, s2, r2⟩ := peek_list R Vb h2
      refine .inr (.inl ⟨a, b, xs, ys, rfl, rfl, s1, s2, by rw [dpAll_len r1, dpAll_len r2]; exact hl, fun p hp => ?_⟩)
      exact q _ F _ (Aft.lay R hp) (Aft.newL R hp (dpAll_app r1 r2)) (VNew.ref hp)
    · cases h
  · rename_i as bs h1 h2
    split at h
    · rename_i hl
      cases h
      have p1 := peek_flat R Va h1 (fun _ e => nomatch e)
      have p2 := peek_flat R Vb h2 (fun _ e => nomatch e)
      obtain ⟨a, xs, rfl, s1, r1⟩ := peek_tup R Va h1
      obtain ⟨b, ys, rfl, s2, r2⟩ := peek_tup R Vb h2
      refine .inr (.inr (.inl ⟨a, b, xs, ys, rfl, rfl, s1.1, s2.1, by rw [dpAll_len r1, dpAll_len r2]; exact hl, fun e => ?_, fun e e2 => ?_, fun _ _ p o hp hd => ?_⟩))
      · subst e
        cases r1
        exact q _ F H (Aft.refl R) p2 VNew.dat
      · subst e2
        cases r2
        rw [List.append_nil] at q
        exact q _ F H (Aft.refl R) p1 VNew.dat
      · exact q _ _ _ (Aft.layF R hp) (Aft.newT R hp hd (dpAll_app r1 r2)) VNew.dat
    · cases h
  · rename_i b j h1 h2
    cases h
    exact .inr (.inr (.inr ⟨b, j, peek_bool R Va h1, peek_int R Vb h2, q _ F H (Aft.refl R) (.int _) VNew.dat⟩))
  · cases h
/-! ### - -/
def rSubX : R2 := fun x y H Q => rI0 (fun i j => .int (i - j)) x y H Q ∨ (rBI (· - ·) x y H Q ∨ rIB (· - ·) x y H Q)
theorem op_subX : OpR X (binaryOp .Sub) rSubX := opr_or op_sub (opr_or op_subBI op_subIB)
def fSubX : F2 := fun va vb fm => match peek va fm, peek vb fm with
  | some (.int i), some (.int j) => some (.dat (.int (i - j)), fm)
  | some (.bool b), some (.int j) => some (.dat (.int (b2n b - j)), fm)
  | some (.int i), some (.bool b) => some (.dat (.int (i - b2n b)), fm)
  | _, _ => none
theorem p_subX : Prim2 K rSubX fSubX := by
  intro F H σ fm fm' va vb x y v R Va Vb h Q q
  unfold fSubX at h
  split at h
  · rename_i i j h1 h2
    cases h
    exact .inl ⟨i, j, peek_int R Va h1, peek_int R Vb h2, q _ F H (Aft.refl R) (.int _) VNew.dat⟩
  · rename_i b j h1 h2
    cases h
    exact .inr (.inl ⟨b, j, peek_bool R Va h1, peek_int R Vb h2, q _ F H (Aft.refl R) (.int _) VNew.dat⟩)
  · rename_i i b h1 h2
    cases h
    exact .inr (.inr ⟨i, b, peek_int R Va h1, peek_bool R Vb h2, q _ F H (Aft.refl R) (.int _) VNew.dat⟩)
  · cases h
/-! ### * -/
def repD (k : Int) (ds : List PyData) : List PyData := (List.replicate k.toNat ds).flatten
theorem dpAll_rep {F : Hp} {vs : List V} {ds : List PyData} (r : DqAll K F vs ds) : ∀ n : Nat, DqAll K F (List.replicate n vs).flatten (List.replicate n ds).flatten
  | 0 => .nil
  | n + 1 => by
    rw [List.replicate_succ, List.replicate_succ, List.flatten_cons, List.flatten_cons]
    exact dpAll_app r (dpAll_rep r n)
def rMulX (K : PySem.W.Frag) : R2 := fun x y H Q => rI CMul (fun i j => .int (i * j)) x y H Q ∨ rRep x y H Q
theorem op_mulX' : OpR X (binaryOp .Mult) (rMulX X.K) := opr_or op_mul op_rep
def fMulL (k : Int) (va : SV) (fm : Fm) : Option (SV × Fm) := match va with
  | .fre (.lst ds) => if ds.length * k.toNat ≤ sizeLine ∧ -(2 ^ 63) ≤ k ∧ k < 2 ^ 63 then some (.fre (.lst (repD k ds)), fm) else none
  | _ => none
def fMulX : F2 := fun va vb fm => match peek va fm, peek vb fm with
  | some (.int i), some (.int j) => if cMul i j then some (.dat (.int (i * j)), fm) else none
  | some (.list _), some (.int k) => fMulL k va fm
  | _, _ => none
theorem p_mulX : Prim2 K (rMulX K) fMulX := by
  intro F H σ fm fm' va vb x y v R Va Vb h Q q
  unfold fMulX at h
  split at h
  · rename_i i j h1 h2
    split at h
    · rename_i hc
      cases h
      refine .inl ⟨i, j, peek_int R Va h1, peek_int R Vb h2, ?_, q _ F H (Aft.refl R) (.int _) VNew.dat⟩
      simp only [cMul, Bool.or_eq_true, Bool.and_eq_true, decide_eq_true_eq] at hc; exact hc
    · cases h
  · rename_i es k h1 h2
    unfold fMulL at h
    split at h
    · rename_i ds
      split at h
      · rename_i hc
        cases h
        obtain ⟨p, rfl, hf, ⟨vs, hp, r⟩, hl⟩ := Va
        refine .inr ⟨p, k, vs, rfl, peek_int R Vb h2, hp, hc.2.1, hc.2.2, by rw [dpAll_len r]; exact hc.1, fun a ha => ?_⟩
        exact q _ F _ (Aft.lay R ha) (Aft.newL R ha (dpAll_rep r _)) (VNew.ref ha)
      · cases h
    · cases h
  · cases h
/-! ### in, not in: flat items -/
def flatD : PyData → Bool
  | .none => true
  | .bool _ => true
  | .int _ => true
  | .str _ => true
  | _ => false
end
/-! ### one value -/
abbrev F1 := SV → Fm → Option (SV × Fm)
def m1 (f : F1) (ma : ME) : ME := fun fm => match ma fm with
  | some (v, fm1) => f v fm1
  | none => none
def Prim1 (K : PySem.W.Frag) (r : V → Hp → VK → Prop) (f : F1) : Prop := ∀ (F H : Hp) (σ : L2.St) (fm fm' : Fm) (va : SV) (x : V) (v : SV), Rel K F H σ fm → VRel K F H σ fm va x → f va fm = some (v, fm') →
  ∀ Q : VK, (∀ z F' H', Aft K σ F H fm F' H' fm' → VRel K F' H' σ fm' v z → VNew H v z → Q z H') → r x H Q
section
variable {X : Cx} {K : PySem.W.Frag} {a : Expr} {pos : Pos}
theorem m1_inv {f : F1} {ma : ME} {fm fm' : Fm} {v : SV} (h : m1 f ma fm = some (v, fm')) : ∃ va fm1, ma fm = some (va, fm1) ∧ f va fm1 = some (v, fm') := by
  unfold m1 at h
  split at h
  · rename_i va fm1 h1
    exact ⟨va, fm1, h1, h⟩
  · cases h
theorem tE_1 {r : V → Hp → VK → Prop} {f : F1} {ma : ME} (P : Prim1 K r f) {σ : L2.St} {H : Hp} {Q : VK} (h : tE K (m1 f ma) σ H Q) : tE K ma σ H fun x H1 => r x H1 Q := by
  obtain ⟨F, fm, v, fm', R, em, q⟩ := h
  obtain ⟨va, fm1, e1, e2⟩ := m1_inv em
  refine ⟨F, fm, va, fm1, R, e1, fun x F1 H1 A1 V1 N1 => P F1 H1 σ fm1 fm' va x v A1.rel V1 e2 Q fun z F2 H2 A2 V2 N2 => ?_⟩
  exact q z F2 H2 (A1.trans A2) V2 (A1.new N2)
theorem se_un {op : UnaryOp} {r : V → Hp → VK → Prop} {f : F1} {ma : ME} (ho : UnR X (unaryOp op) r) (P : Prim1 X.K r f) (ha : SE X a ma) : SE X (.UnaryOp op a pos) (m1 f ma) :=
  pe_le (pe_un ho ha) fun σ H Q h => tE_1 P h
def fNeg : F1 := fun va fm => match peek va fm with
  | some (.int i) => some (.dat (.int (-i)), fm)
  | _ => none
theorem p_neg : Prim1 K (rU fun i => .int (-i)) fNeg := by
  intro F H σ fm fm' va x v R Va h Q q
  unfold fNeg at h
  split at h
  · rename_i i h1
    cases h
    exact ⟨i, peek_int R Va h1, q _ F H (Aft.refl R) (.int _) VNew.dat⟩
  · cases h
/-! ### calls of built-ins, by values -/
abbrev FA := List SV → Fm → Option (SV × Fm)
def mB1 (f : FA) (ma : MA) : ME := fun fm => match ma fm with
  | some (vs, fm1) => f vs fm1
  | none => none
def PrimA (K : PySem.W.Frag) (r : List V → Hp → VK → Prop) (f : FA) : Prop := ∀ (F H : Hp) (σ : L2.St) (fm fm' : Fm) (vs : List SV) (xs : List V) (v : SV), Rel K F H σ fm → VsRel K F H σ fm vs xs → f vs fm = some (v, fm') →
  ∀ Q : VK, (∀ z F' H', Aft K σ F H fm F' H' fm' → VRel K F' H' σ fm' v z → VNew H v z → Q z H') → r xs H Q
theorem tE_A {r : List V → Hp → VK → Prop} {f : FA} {ma : MA} (P : PrimA K r f) {σ : L2.St} {H : Hp} {Q : VK} (h : tE K (mB1 f ma) σ H Q) : tCB r (tA K ma) σ H Q := by
  obtain ⟨F, fm, v, fm', R, em, q⟩ := h
  unfold mB1 at em
  split at em
  · rename_i vs fm1 e1
    refine ⟨F, fm, vs, fm1, R, e1, fun xs F1 H1 A1 V1 N1 => P F1 H1 σ fm1 fm' vs xs v A1.rel V1 em Q fun z F2 H2 A2 V2 N2 => ?_⟩
    exact q z F2 H2 (A1.trans A2) V2 (A1.new N2)
  · cases em
variable {e : Expr} {es : List Expr} {x : Str} {p : Pos} {id T : String}
theorem se_callB {r : List V → Hp → VK → Prop} {f : FA} {ma : MA} (hc : CallR X (.builtin id) r) (P : PrimA X.K r f) (hg : Gl X x) (hm : X.mg x = none) (hv : bootBuiltins x = some (.builtin id)) (ha : SA X (e :: es) ma)
    (hn : x ≠ "__name__" := by decide) (hdb : (x == ("__debug__" : Str)) = false := by decide) (he : starEach (e :: es) X.env = (false, eval e X.env) :: starEach es X.env := by rfl) (hpl : (backTo pos (starEach es X.env)).any (·.1) = false := by rfl) :
    SE X (.Call (.Name x p) (e :: es) [] pos) (mB1 f ma) :=
  pe_le (pe_callB hc hg hm hv ha hn hdb he hpl) fun σ H Q h => tE_A P h
theorem se_callTy {r : List V → Hp → VK → Prop} {f : FA} {ma : MA} (hc : CallR X (.type T) r) (P : PrimA X.K r f) (hg : Gl X x) (hm : X.mg x = none) (hv : bootBuiltins x = some (.type T)) (ha : SA X (e :: es) ma)
    (hn : x ≠ "__name__" := by decide) (hdb : (x == ("__debug__" : Str)) = false := by decide) (he : starEach (e :: es) X.env = (false, eval e X.env) :: starEach es X.env := by rfl) (hpl : (backTo pos (starEach es X.env)).any (·.1) = false := by rfl) :
    SE X (.Call (.Name x p) (e :: es) [] pos) (mB1 f ma) :=
  pe_le (pe_callTy hc hg hm hv ha hn hdb he hpl) fun σ H Q h => tE_A P h
theorem callr_or {f : Value} {r r' : List V → Hp → VK → Prop} (h : CallR X f r) (h' : CallR X f r') : CallR X f (fun xs H Q => r xs H Q ∨ r' xs H Q) := by
  intro pins s σ H xs us Q I rx q
  rcases q with q | q
  · exact h pins s σ H xs us Q I rx q
  · exact h' pins s σ H xs us Q I rx q
/-! len, abs, int, min, max, list, tuple, str -/
def fLen : FA := fun vs fm => match vs with
  | [v] => match peek v fm with
    | some (.list ds) => some (.dat (.int ds.length), fm)
    | some (.tuple ds) => some (.dat (.int ds.length), fm)
    | _ => none
  | _ => none
theorem p_len : PrimA K (fun xs H Q => ∃ p ys, xs = [.ref p] ∧ (SqL K H p ys ∨ SqT K H p ys) ∧ Q (.int ys.length) H) fLen := by
  intro F H σ fm fm' vs xs v R Vs h Q q
  unfold fLen at h
  split at h
  · rename_i w
    obtain ⟨y, rfl, V⟩ := vsrel1 Vs
    split at h
    · rename_i ds h1
      cases h
      obtain ⟨a, ys, rfl, s1, r1⟩ := peek_list R V h1
      refine ⟨a, ys, rfl, .inl s1, ?_⟩
      rw [dpAll_len r1]
      exact q _ F H (Aft.refl R) (.int _) VNew.dat
    · rename_i ds h1
      cases h
      obtain ⟨a, ys, rfl, s1, r1⟩ := peek_tup R V h1
      refine ⟨a, ys, rfl, .inr s1.1, ?_⟩
      rw [dpAll_len r1]
      exact q _ F H (Aft.refl R) (.int _) VNew.dat
    · cases h
  · cases h
def fAbs : FA := fun vs fm => match vs with
  | [v] => match peek v fm with
    | some (.int i) => some (.dat (.int (if i < 0 then -i else i)), fm)
    | _ => none
  | _ => none
theorem p_abs : PrimA K (fun xs H Q => ∃ i, xs = [.int i] ∧ Q (.int (if i < 0 then -i else i)) H) fAbs := by
  intro F H σ fm fm' vs xs v R Vs h Q q
  unfold fAbs at h
  split at h
  · obtain ⟨y, rfl, V⟩ := vsrel1 Vs
    split at h
    · rename_i i h1
      cases h
      cases peek_int R V h1
      exact ⟨i, rfl, q _ F H (Aft.refl R) (.int _) VNew.dat⟩
    · cases h
  · cases h
def fInt : FA := fun vs fm => match vs with
  | [v] => match peek v fm with
    | some (.int i) => some (.dat (.int i), fm)
    | some (.bool b) => some (.dat (.int (if b then 1 else 0)), fm)
    | _ => none
  | _ => none
theorem p_int : PrimA K (fun xs H Q => (∃ i, xs = [.int i] ∧ Q (.int i) H) ∨ ∃ k, xs = [.bl k] ∧ Q (.int (if k then 1 else 0)) H) fInt := by
  intro F H σ fm fm' vs xs v R Vs h Q q
  unfold fInt at h
  split at h
  · obtain ⟨y, rfl, V⟩ := vsrel1 Vs
    split at h
    · rename_i i h1
      cases h
      cases peek_int R V h1
      exact .inl ⟨i, rfl, q _ F H (Aft.refl R) (.int _) VNew.dat⟩
    · rename_i i h1
      cases h
      cases peek_bool R V h1
      exact .inr ⟨i, rfl, q _ F H (Aft.refl R) (.int _) VNew.dat⟩
    · cases h
  · cases h
def fMin2 : FA := fun vs fm => match vs with
  | [v, w] => match peek v fm, peek w fm with
    | some (.int i), some (.int j) => some (.dat (.int (if j < i then j else i)), fm)
    | _, _ => none
  | _ => none
theorem p_min2 : PrimA K (fun xs H Q => ∃ i j, xs = [.int i, .int j] ∧ Q (.int (if j < i then j else i)) H) fMin2 := by
  intro F H σ fm fm' vs xs v R Vs h Q q
  unfold fMin2 at h
  split at h
  · obtain ⟨y, z, rfl, V, W⟩ := vsrel2 Vs
    split at h
    · rename_i i j h1 h2
      cases h
      cases peek_int R V h1
      cases peek_int R W h2
      exact ⟨i, j, rfl, q _ F H (Aft.refl R) (.int _) VNew.dat⟩
    · cases h
  · cases h
def fMax2 : FA := fun vs fm => match vs with
  | [v, w] => match peek v fm, peek w fm with
    | some (.int i), some (.int j) => some (.dat (.int (if j > i then j else i)), fm)
    | _, _ => none
  | _ => none
theorem p_max2 : PrimA K (fun xs H Q => ∃ i j, xs = [.int i, .int j] ∧ Q (.int (if j > i then j else i)) H) fMax2 := by
  intro F H σ fm fm' vs xs v R Vs h Q q
  unfold fMax2 at h
  split at h
  · obtain ⟨y, z, rfl, V, W⟩ := vsrel2 Vs
    split at h
    · rename_i i j h1 h2
      cases h
      cases peek_int R V h1
      cases peek_int R W h2
      exact ⟨i, j, rfl, q _ F H (Aft.refl R) (.int _) VNew.dat⟩
    · cases h
  · cases h
def fList : FA := fun vs fm => match vs with
  | [v] => match peek v fm with
    | some (.list ds) => some (.fre (.lst ds), fm)
    | some (.tuple ds) => some (.fre (.lst ds), fm)
    | _ => none
  | _ => none
theorem p_list : PrimA K (fun xs H Q => ∃ p ys, xs = [.ref p] ∧ (SqL K H p ys ∨ SqT K H p ys) ∧ ∀ l, H l = none → Q (.ref l) (upd H l (.lst ys))) fList := by
  intro F H σ fm fm' vs xs v R Vs h Q q
  unfold fList at h
  split at h
  · obtain ⟨y, rfl, V⟩ := vsrel1 Vs
    split at h
    · rename_i ds h1
      cases h
      obtain ⟨a, ys, rfl, s1, r1⟩ := peek_list R V h1
      exact ⟨a, ys, rfl, .inl s1, fun l hl => q _ F _ (Aft.lay R hl) (Aft.newL R hl r1) (VNew.ref hl)⟩
    · rename_i ds h1
      cases h
      obtain ⟨a, ys, rfl, s1, r1⟩ := peek_tup R V h1
      exact ⟨a, ys, rfl, .inr s1.1, fun l hl => q _ F _ (Aft.lay R hl) (Aft.newL R hl r1) (VNew.ref hl)⟩
    · cases h
  · cases h
def fTuple : FA := fun vs fm => match vs with
  | [v] => match peek v fm with
    | some (.list ds) => some (.dat (.tuple ds), fm)
    | some (.tuple ds) => some (.dat (.tuple ds), fm)
    | _ => none
  | _ => none
theorem p_tuple : PrimA K (fun xs H Q => ∃ p ys, xs = [.ref p] ∧ ((SqL K H p ys ∧ rNewP ys H Q) ∨ (SqT K H p ys ∧ Q (.ref p) H))) fTuple := by
  intro F H σ fm fm' vs xs v R Vs h Q q
  unfold fTuple at h
  split at h
  · obtain ⟨y, rfl, V⟩ := vsrel1 Vs
    split at h
    · rename_i ds h1
      cases h
      obtain ⟨a, ys, rfl, s1, r1⟩ := peek_list R V h1
      exact ⟨a, ys, rfl, .inl ⟨s1, fun l o hl hd => q _ _ _ (Aft.layF R hl) (Aft.newT R hl hd r1) VNew.dat⟩⟩
    · rename_i ds h1
      cases h
      have p1 := peek_flat R V h1 (fun _ e => nomatch e)
      obtain ⟨a, ys, rfl, s1, r1⟩ := peek_tup R V h1
      exact ⟨a, ys, rfl, .inr ⟨s1.1, q _ F H (Aft.refl R) p1 VNew.dat⟩⟩
    · cases h
  · cases h
def rStrX : List V → Hp → VK → Prop := fun xs H Q => (∃ i, xs = [.int i] ∧ i.natAbs.log2 < 1920 ∧ Q (.str (toString i)) H) ∨ ∃ b, xs = [.bl b] ∧ Q (.str (if b then "True" else "False")) H
theorem call_strX : CallR X (.type "str") rStrX := by
  intro pins s σ H xs us Q I r h
  rcases h with h | ⟨b, rfl, q⟩
  · exact call_str_int pins s σ H xs us Q I r h
  · cases r with
    | cons r1 r2 =>
      cases r2
      cases r1
      exact PySem.P.str_of_bool ⟨.str _, H, I.tok _, ⟨_, rfl⟩, q⟩
def fStr : FA := fun vs fm => match vs with
  | [v] => match peek v fm with
    | some (.int i) => if i.natAbs.log2 < 1920 then some (.dat (.str (toString i)), fm) else none
    | some (.bool b) => some (.dat (.str (if b then "True" else "False")), fm)
    | _ => none
  | _ => none
theorem p_str : PrimA K rStrX fStr := by
  intro F H σ fm fm' vs xs v R Vs h Q q
  unfold fStr at h
  split at h
  · obtain ⟨y, rfl, V⟩ := vsrel1 Vs
    split at h
    · rename_i i h1
      split at h
      · rename_i hz
        cases h
        cases peek_int R V h1
        exact .inl ⟨i, rfl, hz, q _ F H (Aft.refl R) (.str _) VNew.dat⟩
      · cases h
    · rename_i b h1
      cases h
      cases peek_bool R V h1
      exact .inr ⟨b, rfl, q _ F H (Aft.refl R) (.str _) VNew.dat⟩
    · cases h
  · cases h
end
end Rf


/-! Rg1: objects of slots written; methods; stores to items; chains of comparisons; slices. -/
namespace Rf
open PySem L2

section
variable {K : PySem.W.Frag} {F F' F1 H H' H1 : Hp} {σ σ' : L2.St} {fm fm' fm1 : Fm} {v : SV} {x : V}
/-- the object of slot i is written -/
theorem Aft.write {i : Nat} {p : Addr} {c : Cell} {vs : List V} {ds : List PyData} (R : Rel K F H σ fm) (hi : fm[i]? = some (some (.own c))) (hx : σ[i]? = some (some (.ref p))) (r : DqAll K F vs ds) :
    Aft K σ F H fm F (upd H p (.lst vs)) (fm.set i (some (.own (.lst ds)))) := by
  obtain ⟨p', hx', hf, hc⟩ := R.own i c hi
  rw [hx] at hx'; cases hx'
  have lp : Live σ fm p := ⟨i, c, hi, hx⟩
  have hil : i < fm.length := (List.getElem?_eq_some_iff.mp hi).1
  have back : ∀ {j : Nat} {c' : Cell}, (fm.set i (some (.own (.lst ds))))[j]? = some (some (.own c')) → ∃ c'', fm[j]? = some (some (.own c'')) := fun {j c'} h => by
    rcases get_set h with ⟨rfl, _, _⟩ | ⟨_, h⟩
    · exact ⟨c, hi⟩
    · exact ⟨c', h⟩
  refine ⟨⟨Same.refl _, fun a o hl h => ?_, fun a o h => .inl h, fun a h => .inl ?_, fun a h => ?_⟩, keeps_set, ⟨fun b u q => ?_, by rw [List.length_set]; exact R.len, fun j d h => ?_, fun j c' h => ?_, fun j k c' c'' q hne h1 h2 h3 => ?_⟩⟩
  · have ne : a ≠ p := fun z => hl (by rw [z]; exact lp)
    rw [upd_ne ne]; exact h
  · obtain ⟨j, c', h1, h2⟩ := h
    obtain ⟨c'', h3⟩ := back h1
    exact ⟨j, c'', h3, h2⟩
  · by_cases z : a = p
    · subst z; rw [upd_same] at h; cases h
    · rw [upd_ne z] at h; exact h
  · have ne : b ≠ p := fun z => by subst z; rw [hf] at q; cases q
    rw [upd_ne ne]; exact R.sub _ _ q
  · rcases get_set h with ⟨_, e, _⟩ | ⟨_, h⟩
    · cases e
    · exact R.dat j d h
  · rcases get_set h with ⟨rfl, e, _⟩ | ⟨ne, h⟩
    · cases e
      exact ⟨p, hx, hf, vs, upd_same, r⟩
    · obtain ⟨q, h1, h2, h3⟩ := R.own j c' h
      have nq : q ≠ p := fun w => by subst w; exact R.apart i j c c' q ne hi h hx h1
      exact ⟨q, h1, h2, h3.mono (Same.refl _) fun o ho => by rw [upd_ne nq]; exact ho⟩
  · obtain ⟨c1, e1⟩ := back h1
    obtain ⟨c2, e2⟩ := back h2
    exact R.apart j k c1 c2 q hne e1 e2 h3
/-- what stands in a slot that owns a list -/
theorem Rel.ownL {i : Nat} {ds : List PyData} (R : Rel K F H σ fm) (hi : fm[i]? = some (some (.own (.lst ds)))) (hx : σ[i]? = some (some x)) : ∃ p vs, x = .ref p ∧ σ[i]? = some (some (.ref p)) ∧ H p = some (.lst vs) ∧ DqAll K F vs ds := by
  obtain ⟨p, h1, h2, vs, h3, h4⟩ := R.own i _ hi
  have e : x = .ref p := by rw [hx] at h1; exact Option.some.inj (Option.some.inj h1)
  subst e
  exact ⟨p, vs, rfl, hx, h3, h4⟩
end

/-! ### methods of lists, tuples, texts -/
abbrev FM := SV → List SV → Fm → Option (SV × Fm)
def tyD (T : String) (o : SV) (fm : Fm) : Bool := match peek o fm with
  | some (.list _) => T == "list"
  | some (.tuple _) => T == "tuple"
  | some (.str _) => T == "str"
  | _ => false
def mMt (T : String) (f : FM) (mo : ME) (ma : MA) : ME := fun fm => match mo fm with
  | some (o, fm1) => if tyD T o fm1 then (match ma fm1 with
    | some (vs, fm2) => f o vs fm2
    | none => none) else none
  | none => none
/-- the arguments become data first -/
abbrev FZ := SV → List PyData → Fm → Option (SV × Fm)
def mMtZ (T : String) (f : FZ) (mo : ME) (ma : MA) : ME := fun fm => match mo fm with
  | some (o, fm1) => if tyD T o fm1 then (match ma fm1 with
    | some (vs, fm2) => match frzAll vs fm2 with
      | some (ds, fm3) => f o ds fm3
      | none => none
    | none => none) else none
  | none => none
def tyP (K : PySem.W.Frag) (T : String) (x : V) (H : Hp) : Prop := tyV K T x H ∨ (T = "tuple" ∧ ∃ a xs, x = .ref a ∧ SqP K H a xs)
theorem tyD_ok {K : PySem.W.Frag} {F H : Hp} {σ : L2.St} {fm : Fm} {o : SV} {x : V} {T : String} (R : Rel K F H σ fm) (V : VRel K F H σ fm o x) (h : tyD T o fm = true) : tyP K T x H := by
  unfold tyD at h
  split at h
  · rename_i ds e
    obtain ⟨a, vs, rfl, s, _⟩ := peek_list R V e
    exact .inl (.inl ⟨by simpa using h, vs, s⟩)
  · rename_i ds e
    obtain ⟨a, vs, rfl, s, _⟩ := peek_tup R V e
    exact .inr ⟨by simpa using h, a, vs, rfl, s⟩
  · rename_i z e
    have := peek_str R V e
    subst this
    exact .inl (by simpa [tyV] using h)
  · cases h
section
variable {X : Cx} {o e : Expr} {es : List Expr} {name : Str} {apos cpos : Pos} {T id : String} {r : V → List V → Hp → VK → Prop}
theorem tyP_is {pins : List (Addr × Obj)} {σ : L2.St} {H : Hp} {s : Shared} {x : V} {v : Value} (I : Inv X pins σ H s) (r : RelV x v) (ty : tyP X.K T x H) : s.TypeIs v T ∧ ∀ a, v = .ref a → ∃ ob, s.heap.get? a = some ob ∧ ob.dict = none := by
  rcases ty with ty | ⟨rfl, a, xs, rfl, h1, h2⟩
  · exact tyV_is I r ty
  · cases r
    obtain ⟨its, _, t, _⟩ := I.tuple h1
    refine ⟨t.typeIs, fun b e => ?_⟩
    cases e
    rcases h2 with ⟨ob, hf, hd⟩ | ⟨ob, hk, _, hd⟩
    · exact ⟨ob, (I.hok _ _ hf).1, hd⟩
    · exact ⟨ob, I.kIn _ ob hk, hd⟩
def tMtP (K : PySem.W.Frag) (T : String) (r : V → List V → Hp → VK → Prop) (to : TE) (t : TA) : TE := fun σ H Q => to σ H fun x H1 => tyP K T x H1 ∧ t σ H1 fun xs H2 => r x xs H2 Q
theorem pe_mtP {to : TE} {t : TA} (pa : PlainAttrs T) (slot : Slot T name id) (hty : typeOf (.builtin id) = pure (.type "method_descriptor")) (hm : MtR X id r) (ho : PE X o to) (ha : PA X (e :: es) t)
    (hbase : attributeBase o name X.env (eval o X.env) = eval o X.env)
    (hfew : ((backTo cpos (starEach (e :: es) X.env)).all (fun x => !x.1) && (backToKw cpos (keywordEach [] X.env)).all (fun x => x.1.isSome) && decide ((e :: es).length + ([] : List Keyword).length + (if ([] : List Keyword).isEmpty then 0 else 1) < 30)) = true)
    (hline : (apos.endLine == cpos.line) = true) (hs : starEach (e :: es) X.env = (false, eval e X.env) :: starEach es X.env) (hplain : (backTo cpos (starEach es X.env)).any (·.1) = false) :
    PE X (.Call (.Attribute o name apos) (e :: es) [] cpos) (tMtP X.K T r to t) := by
  refine ⟨fun pins s σ H Q I h => ?_⟩
  refine wpAny_Call_method_late hbase hfew hline rfl (thn (ho.run pins s σ H _ I h) fun v s1 got => ?_)
  obtain ⟨x, H1, I1, r1, ty, q1⟩ := got
  obtain ⟨t1, t2⟩ := tyP_is I1 r1 ty
  refine ⟨T, id, pa, slot, hty, t1, t2, ?_⟩
  have hA := ha.run cpos pins s1 σ H1 _ I1 q1
  rw [hs] at hA ⊢
  have hp : (((false, eval e X.env) :: backTo cpos (starEach es X.env)).any (·.1)) = false := by
    rw [List.any_cons, hplain]; rfl
  refine Calls.callWith_builtin hp (Calls.evalArgs_plain (thn hA fun us s2 got => ?_))
  obtain ⟨vs, H2, I2, r2, q2⟩ := got
  exact hm pins s2 σ H2 x vs v us Q I2 r1 r2 q2
def tMtP0 (K : PySem.W.Frag) (T : String) (r : V → List V → Hp → VK → Prop) (to : TE) : TE := fun σ H Q => to σ H fun x H1 => tyP K T x H1 ∧ r x [] H1 Q
theorem pe_mtP0 {to : TE} (pa : PlainAttrs T) (slot : Slot T name id) (hty : typeOf (.builtin id) = pure (.type "method_descriptor")) (hm : MtR X id r) (ho : PE X o to)
    (hbase : attributeBase o name X.env (eval o X.env) = eval o X.env) (hline : (apos.endLine == cpos.line) = true) : PE X (.Call (.Attribute o name apos) [] [] cpos) (tMtP0 X.K T r to) := by
  refine ⟨fun pins s σ H Q I h => ?_⟩
  refine wpAny_Call_method0_late hbase hline (thn (ho.run pins s σ H _ I h) fun v s1 got => ?_)
  obtain ⟨x, H1, I1, r1, ty, q1⟩ := got
  obtain ⟨t1, t2⟩ := tyP_is I1 r1 ty
  exact ⟨T, id, pa, slot, hty, t1, t2, Calls.callWith_builtin rfl (PySem.evalArgs_none (hm pins s1 σ H1 x [] v [] Q I1 r1 .nil q1))⟩
end
def PrimM (K : PySem.W.Frag) (r : V → List V → Hp → VK → Prop) (f : FM) : Prop := ∀ (F H : Hp) (σ : L2.St) (fm fm' : Fm) (o : SV) (vs : List SV) (x : V) (xs : List V) (v : SV), Rel K F H σ fm → VRel K F H σ fm o x → VsRel K F H σ fm vs xs → f o vs fm = some (v, fm') →
  ∀ Q : VK, (∀ z F' H', Aft K σ F H fm F' H' fm' → VRel K F' H' σ fm' v z → VNew H v z → Q z H') → r x xs H Q
def PrimZ (K : PySem.W.Frag) (r : V → List V → Hp → VK → Prop) (f : FZ) : Prop := ∀ (F H : Hp) (σ : L2.St) (fm fm' : Fm) (o : SV) (ds : List PyData) (x : V) (xs : List V) (v : SV), Rel K F H σ fm → VRel K F H σ fm o x → DqAll K F xs ds → f o ds fm = some (v, fm') →
  ∀ Q : VK, (∀ z F' H', Aft K σ F H fm F' H' fm' → VRel K F' H' σ fm' v z → VNew H v z → Q z H') → r x xs H Q
section
variable {K : PySem.W.Frag} {σ : L2.St} {H : Hp} {Q : VK} {T : String} {r : V → List V → Hp → VK → Prop} {mo : ME} {ma : MA}
theorem tE_mt {f : FM} (P : PrimM K r f) (h : tE K (mMt T f mo ma) σ H Q) : tMtP K T r (tE K mo) (tA K ma) σ H Q := by
  obtain ⟨F, fm, v, fm', R, em, q⟩ := h
  unfold mMt at em
  split at em
  · rename_i o fm1 e1
    split at em
    · rename_i ht
      split at em
      · rename_i vs fm2 e2
        refine ⟨F, fm, o, fm1, R, e1, fun x F1 H1 A1 V1 N1 => ⟨tyD_ok A1.rel V1 ht, F1, fm1, vs, fm2, A1.rel, e2, fun xs F2 H2 A2 V2 N2 => ?_⟩⟩
        exact P F2 H2 σ fm2 fm' o vs x xs v A2.rel (A2.val V1) V2 em Q fun z F3 H3 A3 V3 N3 => q z F3 H3 ((A1.trans A2).trans A3) V3 ((A1.trans A2).new N3)
      · cases em
    · cases em
  · cases em
theorem tE_mtZ {f : FZ} (P : PrimZ K r f) (h : tE K (mMtZ T f mo ma) σ H Q) : tMtP K T r (tE K mo) (tA K ma) σ H Q := by
  obtain ⟨F, fm, v, fm', R, em, q⟩ := h
  unfold mMtZ at em
  split at em
  · rename_i o fm1 e1
    split at em
    · rename_i ht
      split at em
      · rename_i vs fm2 e2
        split at em
        · rename_i ds fm3 e3
          refine ⟨F, fm, o, fm1, R, e1, fun x F1 H1 A1 V1 N1 => ⟨tyD_ok A1.rel V1 ht, F1, fm1, vs, fm2, A1.rel, e2, fun xs F2 H2 A2 V2 N2 => ?_⟩⟩
          obtain ⟨F3, A3, D3⟩ := aft_frzAll A2 V2 N2 e3
          exact P F3 H2 σ fm3 fm' o ds x xs v A3.rel (A3.val V1) D3 em Q fun z F4 H4 A4 V4 N4 => q z F4 H4 ((A1.trans A3).trans A4) V4 ((A1.trans A3).new N4)
        · cases em
      · cases em
    · cases em
  · cases em
end
/-! append, insert, extend, pop -/
def fAppend : FZ := fun o ds fm => match o, ds with
  | .bor i, [d] => match fm[i]? with
    | some (some (.own (.lst xs))) => if xs.length < sizeLine then some (.dat .none, fm.set i (some (.own (.lst (xs ++ [d]))))) else none
    | _ => none
  | _, _ => none
def fInsert : FZ := fun o ds fm => match o, ds with
  | .bor i, [.int k, d] => match fm[i]? with
    | some (some (.own (.lst xs))) => if xs.length < sizeLine ∧ 0 ≤ k ∧ k < 2 ^ 63 then some (.dat .none, fm.set i (some (.own (.lst (xs.take k.toNat ++ [d] ++ xs.drop k.toNat))))) else none
    | _ => none
  | _, _ => none
def fExtend : FM := fun o vs fm => match o, vs with
  | .bor i, [.fre (.lst es)] => match fm[i]? with
    | some (some (.own (.lst xs))) => if xs.length + es.length ≤ sizeLine then some (.dat .none, fm.set i (some (.own (.lst (xs ++ es))))) else none
    | _ => none
  | _, _ => none
def fPopAt : FM := fun o vs fm => match o, vs with
  | .bor i, [w] => match fm[i]?, peek w fm with
    | some (some (.own (.lst xs))), some (.int k) => if -(2 ^ 63) ≤ k ∧ k < 2 ^ 63 then (match seqIndex? k xs.length with
      | some j => match xs[j]? with
        | some d => some (.dat d, fm.set i (some (.own (.lst (xs.eraseIdx j)))))
        | none => none
      | none => none) else none
    | _, _ => none
  | _, _ => none
section
variable {K : PySem.W.Frag}
theorem p_append : PrimZ K rAppend fAppend := by
  intro F H σ fm fm' o ds x xs v R V D h Q q
  unfold fAppend at h
  split at h
  · rename_i i d
    obtain ⟨hx, _⟩ := V
    cases D with
    | cons D1 D2 =>
      cases D2
      split at h
      · rename_i es hi
        split at h
        · rename_i hl
          cases h
          obtain ⟨p, vs, rfl, hs, hp, r⟩ := R.ownL hi hx
          refine ⟨p, vs, _, rfl, rfl, hp, by rw [dpAll_len r]; exact hl, ?_⟩
          exact q _ F _ (Aft.write R hi hs (dpAll_app r (.cons D1 .nil))) .non VNew.dat
        · cases h
      · cases h
  · cases h
theorem p_extend : PrimM K rExtend fExtend := by
  intro F H σ fm fm' o ws x xs v R V D h Q q
  unfold fExtend at h
  split at h
  · rename_i i es
    obtain ⟨hx, _⟩ := V
    obtain ⟨y, rfl, Vy⟩ := vsrel1 D
    obtain ⟨b, rfl, hf, ⟨us, hb, rb⟩, hn⟩ := Vy
    split at h
    · rename_i es' hi
      split at h
      · rename_i hl
        cases h
        obtain ⟨p, vs, rfl, hs, hp, r⟩ := R.ownL hi hx
        refine ⟨p, b, vs, us, rfl, rfl, hp, hb, by rw [dpAll_len r, dpAll_len rb]; exact hl, ?_⟩
        exact q _ F _ (Aft.write R hi hs (dpAll_app r rb)) .non VNew.dat
      · cases h
    · cases h
  · cases h
theorem p_popAt : PrimM K rPopAt fPopAt := by
  intro F H σ fm fm' o ws x xs v R V D h Q q
  unfold fPopAt at h
  split at h
  · rename_i i w
    obtain ⟨hx, _⟩ := V
    obtain ⟨y, rfl, Vy⟩ := vsrel1 D
    split at h
    · rename_i es k hi hk
      split at h
      · rename_i hb
        split at h
        · rename_i j hj
          split at h
          · rename_i d hd
            cases h
            obtain ⟨p, vs, rfl, hs, hp, r⟩ := R.ownL hi hx
            obtain ⟨u, hu, Du⟩ := dpAll_get r hd
            refine ⟨p, vs, k, j, u, rfl, by rw [peek_int R Vy hk], hp, hb.1, hb.2, by rw [dpAll_len r]; exact hj, hu, ?_⟩
            exact q _ F _ (Aft.write R hi hs (dpAll_erase j r)) Du VNew.dat
          · cases h
        · cases h
      · cases h
    · cases h
  · cases h
end
end Rf

/-! Rg2: chains of comparisons, slices, stores to items, in, isinstance, built-ins over sequences. -/
namespace Rf
open PySem L2

/-! ### a < b < c -/
def mChain (f f' : F2) (ma mb mc : ME) : ME := fun fm => match ma fm with
  | some (va, fm1) => match mb fm1 with
    | some (vb, fm2) => match f va vb fm2 with
      | some (.dat (.bool true), fm3) => match mc fm3 with
        | some (vc, fm4) => f' vb vc fm4
        | none => none
      | some (.dat (.bool false), fm3) => some (.dat (.bool false), fm3)
      | _ => none
    | none => none
  | none => none
section
variable {K : PySem.W.Frag} {X : Cx} {a b c : Expr} {pos : Pos}
theorem tE_chain {r r' : R2} {f f' : F2} {ma mb mc : ME} (P : Prim2 K r f) (P' : Prim2 K r' f') {σ : L2.St} {H : Hp} {Q : VK} (h : tE K (mChain f f' ma mb mc) σ H Q) : tChain r r' (tE K ma) (tE K mb) (tE K mc) σ H Q := by
  obtain ⟨F, fm, v, fm', R, em, q⟩ := h
  unfold mChain at em
  split at em
  · rename_i va fm1 e1
    split at em
    · rename_i vb fm2 e2
      refine ⟨F, fm, va, fm1, R, e1, fun x F1 H1 A1 V1 N1 => ⟨F1, fm1, vb, fm2, A1.rel, e2, fun y F2 H2 A2 V2 N2 => ?_⟩⟩
      split at em
      · rename_i fm3 e3
        split at em
        · rename_i vc fm4 e4
          refine P F2 H2 σ fm2 fm3 va vb x y _ A2.rel (A2.val V1) V2 e3 _ fun z F3 H3 A3 V3 N3 => ?_
          cases (show Dq K F3 z (.bool true) from V3)
          refine ⟨true, rfl, iteT ⟨F3, fm3, vc, fm4, A3.rel, e4, fun w F4 H4 A4 V4 N4 => ?_⟩⟩
          have A := ((A1.trans A2).trans A3).trans A4
          exact P' F4 H4 σ fm4 fm' vb vc y w v A4.rel ((A3.trans A4).val V2) V4 em Q fun z F5 H5 A5 V5 N5 => q z F5 H5 (A.trans A5) V5 (A.new N5)
        · cases em
      · rename_i fm3 e3
        cases em
        refine P F2 H2 σ fm2 _ va vb x y _ A2.rel (A2.val V1) V2 e3 _ fun z F3 H3 A3 V3 N3 => ?_
        cases (show Dq K F3 z (.bool false) from V3)
        exact ⟨false, rfl, iteF (q _ F3 H3 ((A1.trans A2).trans A3) (.bl false) VNew.dat)⟩
      · cases em
    · cases em
  · cases em
theorem se_chain {op op' : CmpOp} {r r' : R2} {f f' : F2} {ma mb mc : ME} (ho : OpR X (compareOp op) r) (ho' : OpR X (compareOp op') r') (P : Prim2 X.K r f) (P' : Prim2 X.K r' f') (ha : SE X a ma) (hb : SE X b mb) (hc : SE X c mc) (hm : lastMarks [op, op'] [b, c] = false) :
    SE X (.Compare a [op, op'] [b, c] pos) (mChain f f' ma mb mc) := pe_le (pe_chain ho ho' ha hb hc hm) fun σ H Q h => tE_chain P P' h
theorem st_chain {op op' : CmpOp} {r r' : R2} {f f' : F2} {ma mb mc : ME} (ho : OpR X (compareOp op) r) (ho' : OpR X (compareOp op') r') (P : Prim2 X.K r f) (P' : Prim2 X.K r' f') (ha : SE X a ma) (hb : SE X b mb) (hc : SE X c mc) (hm : lastMarks [op, op'] [b, c] = false) :
    ST X (.Compare a [op, op'] [b, c] pos) (mB (mChain f f' ma mb mc)) := pt_le (pt_chain ho ho' ha hb hc hm) fun σ H Q h => by
  obtain ⟨F, fm, v, fm', R, em, q⟩ := tT_B h
  exact tE_chain P P' ⟨F, fm, v, fm', R, em, q⟩
end

/-! ### slices -/
def cutD (ds : List PyData) (lo hi : Option Int) : List PyData := (ds.drop (HT.sIx ds.length 0 lo)).take (HT.sIx ds.length ds.length hi - HT.sIx ds.length 0 lo)
abbrev MO := Fm → Option (Option Int × Fm)
def oNone : MO := fun fm => some (none, fm)
def oSome (m : ME) : MO := fun fm => match m fm with
  | some (.dat (.int i), fm1) => some (some i, fm1)
  | _ => none
def mSl (mo : ME) (ml mh : MO) : ME := fun fm => match mo fm with
  | some (v, fm1) => match ml fm1 with
    | some (lo, fm2) => match mh fm2 with
      | some (hi, fm3) => match peek v fm3 with
        | some (.list ds) => some (.fre (.lst (cutD ds lo hi)), fm3)
        | some (.tuple ds) => some (.dat (.tuple (cutD ds lo hi)), fm3)
        | _ => none
      | none => none
    | none => none
  | none => none
def tO (K : PySem.W.Frag) (m : MO) : TO := fun σ H Q => ∃ F fm i fm', Rel K F H σ fm ∧ m fm = some (i, fm') ∧ ∀ F' H', Aft K σ F H fm F' H' fm' → Q i H'
def SO (X : Cx) (e : Option Expr) (m : MO) : Prop := PO X e (tO X.K m)
section
variable {K : PySem.W.Frag} {X : Cx} {e : Expr} {lo hi : Option Expr} {pos p2 : Pos}
theorem so_none : SO X none oNone := ⟨fun pins s σ H Q I ⟨F, fm, i, fm', R, em, q⟩ => po_none.run pins s σ H Q I (by cases em; exact q F H (Aft.refl R))⟩
theorem so_some {m : ME} (h : SE X e m) : SO X (some e) (oSome m) := ⟨fun pins s σ H Q I ⟨F, fm, i, fm', R, em, q⟩ => (po_some h).run pins s σ H Q I (by
  unfold oSome at em
  split at em
  · rename_i j fm1 e1
    cases em
    refine ⟨F, fm, _, _, R, e1, fun x F1 H1 A1 V1 N1 => ?_⟩
    have := dpint V1
    subst this
    exact ⟨j, rfl, q F1 H1 A1⟩
  · cases em)⟩
theorem dpAll_cut {F : Hp} {vs : List V} {ds : List PyData} {lo hi : Option Int} (r : DqAll K F vs ds) : DqAll K F (cutV vs lo hi) (cutD ds lo hi) := by
  unfold cutV cutD
  rw [dpAll_len r]
  exact dpAll_take _ (dpAll_drop _ r)
theorem cutD_whole {ds : List PyData} {lo hi : Option Int} (h : HT.sIx ds.length 0 lo = 0 ∧ HT.sIx ds.length ds.length hi = ds.length) : cutD ds lo hi = ds := by
  unfold cutD
  rw [h.1, h.2, List.drop_zero, Nat.sub_zero, List.take_length]
theorem se_slice {mo : ME} {ml mh : MO} (he : SE X e mo) (hl : SO X lo ml) (hh : SO X hi mh) : SE X (.Subscript e (.Slice lo hi none p2) pos) (mSl mo ml mh) :=
  pe_le (pe_slice (SlR.or sl_list sl_tupP) he hl hh) fun σ H Q ⟨F, fm, v, fm', R, em, q⟩ => by
    unfold mSl at em
    split at em
    · rename_i w fm1 e1
      split at em
      · rename_i l fm2 e2
        split at em
        · rename_i u fm3 e3
          refine ⟨F, fm, w, fm1, R, e1, fun x F1 H1 A1 V1 N1 => ⟨F1, fm1, l, fm2, A1.rel, e2, fun F2 H2 A2 => ⟨F2, fm2, u, fm3, A2.rel, e3, fun F3 H3 A3 => ?_⟩⟩⟩
          have A := (A1.trans A2).trans A3
          have V3 := (A2.trans A3).val V1
          split at em
          · rename_i ds h1
            cases em
            obtain ⟨a, vs, rfl, s1, r1⟩ := peek_list A3.rel V3 h1
            exact .inl ⟨a, vs, rfl, s1, fun p hp => q _ F3 _ (A.trans (Aft.lay A3.rel hp)) (Aft.newL A3.rel hp (dpAll_cut r1)) (A.new (VNew.ref hp))⟩
          · rename_i ds h1
            cases em
            have pf := peek_flat A3.rel V3 h1 (fun _ e => nomatch e)
            obtain ⟨a, vs, rfl, s1, r1⟩ := peek_tup A3.rel V3 h1
            refine .inr ⟨a, vs, rfl, s1.1, fun hw => ?_, fun _ p o hp hd => ?_⟩
            · rw [dpAll_len r1] at hw
              rw [cutD_whole hw] at q
              exact q _ F3 H3 A pf VNew.dat
            · exact q _ _ _ (A.trans (Aft.layF A3.rel hp)) (Aft.newT A3.rel hp hd (dpAll_cut r1)) VNew.dat
          · cases em
        · cases em
      · cases em
    · cases em
end

/-! ### xs[i] = .. -/
/-- as a target: the object of a slot, an index -/
def gIx (i : Nat) (mi : ME) : MG := fun d fm => match fm[i]? with
  | some (some (.own _)) => match mi fm with
    | some (.dat (.int k), fm1) => match fm1[i]? with
      | some (some (.own (.lst ds))) => match ixN ds.length k with
        | some j => some (fm1.set i (some (.own (.lst (ds.set j d)))))
        | none => none
      | _ => none
    | _ => none
  | _ => none
section
variable {X : Cx} {e : Expr} {pos p1 : Pos} {ro : List Nat}
theorem sg_ix {i : Nat} {x : Str} {mi : ME} (hN : X.N[i]? = some x) (hv : Vis X.env.scope x) (hd : (x == ("__debug__" : Str)) = false) (hcd : (x == ("__classdict__" : Str)) = false) (he : SE X e mi) (hs : isSlice e = false) : SG X (Dq X.K) ro (.Subscript (.Name x p1) e pos) (gIx i mi) :=
  pg_le (pg_sub (pe_var hN hv hd hcd) he set_list (fun v => by cases e <;> first | rfl | cases hs)) fun v σ H Q ⟨F, fm, d, fm', R, D, em, q⟩ => by
    unfold gIx at em
    split at em
    · rename_i c hi
      obtain ⟨p, hy, hf, hc⟩ := R.own i c hi
      split at em
      · rename_i k fm1 e1
        split at em
        · rename_i ds h1
          split at em
          · rename_i j hj
            cases em
            refine ⟨.ref p, hy, F, fm, _, fm1, R, e1, fun z F1 H1 A1 V1 N1 => ?_⟩
            have := dpint V1
            subst this
            obtain ⟨p', vs, e, hs', hp, r⟩ := A1.rel.ownL h1 hy
            cases e
            refine ⟨p, vs, k, j, rfl, rfl, hp, by rw [dpAll_len r]; exact hj, ?_⟩
            exact q σ F1 _ (A1.trans (Aft.write A1.rel h1 hs' (dpAll_set (dp_mono A1.ext.same D) j r))).s
          · cases em
        · cases em
      · cases em
    · cases em
end
end Rf


/-! Rg2b: in, isinstance, built-ins over sequences, t.index, repr. -/
namespace Rf
open PySem PySem.Spec PyProof.Rows L2

/-! ### in, not in -/
def seqD : PyData → Option (List PyData)
  | .list ds => some ds
  | .tuple ds => some ds
  | _ => none
def fInX : F2 := fun va vb fm => match peek va fm, peek vb fm with
  | some d, some e => match seqD e with
    | some ds => if SeqAt.shaped d && SeqAt.shaped e then some (.dat (.bool (ds.any fun z => PyData.eqv z d)), fm) else none
    | none => none
  | _, _ => none
def fNotInX : F2 := fun va vb fm => match peek va fm, peek vb fm with
  | some d, some e => match seqD e with
    | some ds => if SeqAt.shaped d && SeqAt.shaped e then some (.dat (.bool (!ds.any fun z => PyData.eqv z d)), fm) else none
    | none => none
  | _, _ => none
def rInX (K : PySem.W.Frag) (n : Bool → Bool) : R2 := fun x y H Q => ∃ d e ds, Dp K H x d ∧ Dp K H y e ∧ seqD e = some ds ∧ SeqAt.shaped d = true ∧ SeqAt.shaped e = true ∧ Q (.bl (n (ds.any fun z => PyData.eqv z d))) H
section
variable {X : Cx} {K : PySem.W.Frag}
theorem shaped_items {e : PyData} {ds : List PyData} (h : seqD e = some ds) (he : SeqAt.shaped e = true) : PyData.canLayAll0 ds = true := by
  have h1 := SeqAt.canLay_of_shaped he
  cases e with
  | list _ => cases h; exact h1
  | tuple _ => cases h; exact h1
  | _ => cases h
theorem op_inX (hu : X.A.units + 65 < cLine) : OpR X (compareOp .In) (rInX X.K id) := by
  intro pins s σ H x y v u Q I rx ry h
  obtain ⟨d, e, ds, hd, he, hs, sd, se, q⟩ := h
  obtain ⟨as, r1⟩ := Dp.reads I d x v hd rx
  obtain ⟨bs, r2⟩ := Dp.reads I e y u he ry
  have hl := shaped_items hs se
  cases e with
  | list _ => cases hs; exact SeqAt.in_list_reads r2 r1 hl (SeqAt.canLay_of_shaped sd) (room_in_shaped sd hu) ⟨.bl _, H, I, rfl, q⟩
  | tuple _ => cases hs; exact SeqAt.in_tuple_reads r2 r1 hl (SeqAt.canLay_of_shaped sd) (room_in_shaped sd hu) ⟨.bl _, H, I, rfl, q⟩
  | _ => cases hs
theorem op_notInX (hu : X.A.units + 65 < cLine) : OpR X (compareOp .NotIn) (rInX X.K not) := by
  intro pins s σ H x y v u Q I rx ry h
  obtain ⟨d, e, ds, hd, he, hs, sd, se, q⟩ := h
  obtain ⟨as, r1⟩ := Dp.reads I d x v hd rx
  obtain ⟨bs, r2⟩ := Dp.reads I e y u he ry
  have hl := shaped_items hs se
  cases e with
  | list _ => cases hs; exact SeqAt.notIn_list_reads r2 r1 hl (SeqAt.canLay_of_shaped sd) (room_in_shaped sd hu) ⟨.bl _, H, I, rfl, q⟩
  | tuple _ => cases hs; exact SeqAt.notIn_tuple_reads r2 r1 hl (SeqAt.canLay_of_shaped sd) (room_in_shaped sd hu) ⟨.bl _, H, I, rfl, q⟩
  | _ => cases hs
theorem p_inX : Prim2 K (rInX K id) fInX := by
  intro F H σ fm fm' va vb x y v R Va Vb h Q q
  unfold fInX at h
  split at h
  · rename_i d e h1 h2
    split at h
    · rename_i ds hs
      split at h
      · rename_i hc
        cases h
        simp only [Bool.and_eq_true] at hc
        exact ⟨d, e, ds, (peek_dp R Va h1).dp, (peek_dp R Vb h2).dp, hs, hc.1, hc.2, q _ F H (Aft.refl R) (.bl _) VNew.dat⟩
      · cases h
    · cases h
  · cases h
theorem p_notInX : Prim2 K (rInX K not) fNotInX := by
  intro F H σ fm fm' va vb x y v R Va Vb h Q q
  unfold fNotInX at h
  split at h
  · rename_i d e h1 h2
    split at h
    · rename_i ds hs
      split at h
      · rename_i hc
        cases h
        simp only [Bool.and_eq_true] at hc
        exact ⟨d, e, ds, (peek_dp R Va h1).dp, (peek_dp R Vb h2).dp, hs, hc.1, hc.2, q _ F H (Aft.refl R) (.bl _) VNew.dat⟩
      · cases h
    · cases h
  · cases h
end

/-! ### isinstance -/
def isTy (d : PyData) (T : String) : Option Bool := match d with
  | .none => kitB "NoneType" T
  | .bool _ => kitB "bool" T
  | .int _ => kitB "int" T
  | .str _ => kitB "str" T
  | .list _ => kitB "list" T
  | .tuple _ => kitB "tuple" T
  | _ => none
def isAny (d : PyData) : List String → Option Bool
  | [] => some false
  | T :: Ts => match isTy d T with
    | some true => some true
    | some false => isAny d Ts
    | none => none
def mIsi (Ts : List String) (m : ME) : ME := fun fm => match m fm with
  | some (v, fm1) => match peek v fm1 with
    | some d => match isAny d Ts with
      | some b => some (.dat (.bool b), fm1)
      | none => none
    | none => none
  | none => none
section
variable {X : Cx} {K : PySem.W.Frag}
def tyName : PyData → String
  | .none => "NoneType"
  | .bool _ => "bool"
  | .int _ => "int"
  | .str _ => "str"
  | .list _ => "list"
  | _ => "tuple"
theorem dq_ty {H : Hp} {x : V} {d : PyData} (h : Dp K H x d) : TyX K H x (.type (tyName d)) := by
  cases h with
  | non => exact .base .non
  | bl b => exact .base (.bl b)
  | int i => exact .base (.int i)
  | str z => exact .base (.str z)
  | lst s _ =>
    rcases s with (s | ⟨o, s⟩) | ⟨o, its, n, hk, hc, _⟩
    · exact .base (.lst s)
    · exact .base (.frz s)
    · exact .kList hk hc
  | tup s _ =>
    rcases s with (s | ⟨o, s⟩) | ⟨o, its, n, hk, hc, _⟩
    · exact .base (.tup s)
    · exact .fTuple s
    · exact .kTuple hk hc
theorem isTy_kit {H : Hp} {x : V} {d : PyData} {T : String} {b : Bool} (hd : Dp K H x d) (h : isTy d T = some b) : PySem.W.kitOne K (.type (tyName d)) (.type T) = some b := by
  cases hd <;> exact kit_ty h
theorem isAny_kit {H : Hp} {x : V} {d : PyData} (hd : Dp K H x d) : ∀ {Ts : List String} {b : Bool}, isAny d Ts = some b → PySem.W.kitAny K (.type (tyName d)) (Ts.map Value.type) = some b
  | [], _, h => by cases h; exact kitAny_nil
  | T :: Ts, b, h => by
    unfold isAny at h
    split at h
    · rename_i e
      cases h
      exact kitAny_cons (isTy_kit hd e) (fun z => nomatch z) fun _ => rfl
    · rename_i e
      exact kitAny_cons (isTy_kit hd e) (fun _ => isAny_kit hd h) fun z => nomatch z
    · cases h
variable {e : Expr} {p pos p1 p2 : Pos} {k : Nat}
/-- a built-in class by its name -/
def IsTyN (X : Cx) (x : Str) (T : String) : Prop := Gl X x ∧ X.mg x = none ∧ bootBuiltins x = some (.type T) ∧ x ≠ "__name__" ∧ (x == ("__debug__" : Str)) = false
theorem IsTyN.pe {x : Str} {T : String} (h : IsTyN X x T) : PE X (.Name x p) (tC (.ty T)) := pe_bltn h.1 h.2.1 h.2.2.1 rfl h.2.2.2.1 h.2.2.2.2
theorem se_isi1 {m : ME} {x : Str} {T : String} (hg : Gl X "isinstance") (hm : X.mg "isinstance" = none) (he : SE X e m) (hT : IsTyN X x T) (hs : isStar e = false) :
    SE X (.Call (.Name "isinstance" p) [e, .Name x p1] [] pos) (mIsi [T] m) := by
  have s1 : starEach [e, .Name x p1] X.env = (false, eval e X.env) :: starEach [.Name x p1] X.env := star_cons hs
  refine pe_le (pe_callB call_isi hg hm boot_isinstance (pa_cons he (pa_cons hT.pe pa_nil) s1) (by decide) (by decide) s1) fun σ H Q h => ?_
  obtain ⟨F, fm, v, fm', R, em, q⟩ := h
  unfold mIsi at em
  split at em
  · rename_i w fm1 e1
    split at em
    · rename_i d hd
      split at em
      · rename_i b hb
        cases em
        refine ⟨F, fm, w, _, R, e1, fun x F1 H1 A1 V1 N1 => ?_⟩
        have D := (peek_dp A1.rel V1 hd).dp
        have hb' : isTy d T = some b := by
          unfold isAny at hb
          split at hb
          · rename_i e; rw [e]; exact hb
          · rename_i e; cases hb; exact e
          · cases hb
        exact ⟨x, .ty T, _, _, b, rfl, .ty T, dq_ty D, isTy_kit D hb', q _ F1 H1 A1 (.bl b) VNew.dat⟩
      · cases em
    · cases em
  · cases em
end
end Rf

/-! Rg2c: == of texts, isinstance with several classes, all, any, min, max, sorted, index, repr. -/
namespace Rf
open PySem PySem.Spec PyProof.Rows L2

/-! ### == of texts, of data -/
def fEqX : F2 := fun va vb fm => match peek va fm, peek vb fm with
  | some (.str a), some (.str b) => some (.dat (.bool (decide (a = b))), fm)
  | some d, some e => if SeqAt.shaped d && SeqAt.shaped e then some (.dat (.bool (PyData.eqv d e)), fm) else none
  | _, _ => none
def fNeX : F2 := fun va vb fm => match peek va fm, peek vb fm with
  | some (.str a), some (.str b) => some (.dat (.bool (!decide (a = b))), fm)
  | some d, some e => if SeqAt.shaped d && SeqAt.shaped e then some (.dat (.bool (!PyData.eqv d e)), fm) else none
  | _, _ => none
section
variable {K : PySem.W.Frag}
theorem p_eqX : Prim2 K (fun x y H Q => rEq x y H Q ∨ rEqD K x y H Q) fEqX := by
  intro F H σ fm fm' va vb x y v R Va Vb h Q q
  unfold fEqX at h
  split at h
  · rename_i a b h1 h2
    cases h
    have e1 := peek_str R Va h1
    have e2 := peek_str R Vb h2
    subst e1 e2
    refine .inl ⟨rfl, ?_⟩
    have e : decide (V.str a = V.str b) = decide (a = b) := by simp
    rw [e]
    exact q _ F H (Aft.refl R) (.bl _) VNew.dat
  · rename_i d e _ h1 h2
    split at h
    · rename_i hc
      cases h
      simp only [Bool.and_eq_true] at hc
      exact .inr ⟨d, e, (peek_dp R Va h1).dp, (peek_dp R Vb h2).dp, hc.1, hc.2, q _ F H (Aft.refl R) (.bl _) VNew.dat⟩
    · cases h
  · cases h
theorem p_neX : Prim2 K (fun x y H Q => rNe x y H Q ∨ rNeD K x y H Q) fNeX := by
  intro F H σ fm fm' va vb x y v R Va Vb h Q q
  unfold fNeX at h
  split at h
  · rename_i a b h1 h2
    cases h
    have e1 := peek_str R Va h1
    have e2 := peek_str R Vb h2
    subst e1 e2
    refine .inl ⟨rfl, ?_⟩
    have e : decide (V.str a = V.str b) = decide (a = b) := by simp
    first
      | (rw [e]; exact q _ F H (Aft.refl R) (.bl _) VNew.dat)
      | (have e' : (decide (V.str a ≠ V.str b)) = !decide (a = b) := by simp
         rw [e']; exact q _ F H (Aft.refl R) (.bl _) VNew.dat)
  · rename_i d e _ h1 h2
    split at h
    · rename_i hc
      cases h
      simp only [Bool.and_eq_true] at hc
      exact .inr ⟨d, e, (peek_dp R Va h1).dp, (peek_dp R Vb h2).dp, hc.1, hc.2, q _ F H (Aft.refl R) (.bl _) VNew.dat⟩
    · cases h
  · cases h
end
/-! ### isinstance(x, (A, B)) -/
inductive TyNs (X : Cx) : List Expr → List String → Prop
  | nil : TyNs X [] []
  | cons {x : Str} {p : Pos} {T : String} {es : List Expr} {Ts : List String} (h : IsTyN X x T) (r : TyNs X es Ts) : TyNs X (.Name x p :: es) (T :: Ts)
section
variable {X : Cx} {K : PySem.W.Frag} {e : Expr} {es : List Expr} {p pos p1 p2 : Pos} {k : Nat}
theorem TyNs.pa : ∀ {es : List Expr} {Ts : List String}, TyNs X es Ts → PA X es (fun _ H Q => Q (Ts.map V.ty) H)
  | _, _, .nil => pa_le pa_nil fun σ H Q h => h
  | _, _, .cons (p := p) h r => pa_le (pa_cons (h.pe (p := p)) r.pa) fun σ H Q h => h
theorem cls_all : ∀ Ts : List String, Paired ClsV (Ts.map V.ty) (Ts.map Value.type)
  | [] => .nil
  | T :: Ts => .cons (.ty T) (cls_all Ts)
theorem se_isiT {m : ME} {Ts : List String} (hg : Gl X "isinstance") (hm : X.mg "isinstance" = none) (he : SE X e m) (hT : TyNs X es Ts) (hl : Ts.length ≤ sizeLine) (hs : isStar e = false) :
    SE X (.Call (.Name "isinstance" p) [e, .Tuple es k p1] [] pos) (mIsi Ts m) := by
  have s1 : starEach [e, .Tuple es k p1] X.env = (false, eval e X.env) :: starEach [.Tuple es k p1] X.env := star_cons hs
  refine pe_le (pe_callB call_isiT hg hm boot_isinstance (pa_cons he (pa_cons (pe_tup hT.pa) pa_nil) s1) (by decide) (by decide) s1) fun σ H Q h => ?_
  obtain ⟨F, fm, v, fm', R, em, q⟩ := h
  unfold mIsi at em
  split at em
  · rename_i w fm1 e1
    split at em
    · rename_i d hd
      split at em
      · rename_i b hb
        cases em
        refine ⟨F, fm, w, _, R, e1, fun x F1 H1 A1 V1 N1 => ⟨by rw [List.length_map]; exact hl, fun t ht => ?_⟩⟩
        have A2 := A1.trans (Aft.lay (o := .tup (Ts.map V.ty)) A1.rel ht)
        have D := (peek_dp A2.rel ((Aft.lay A1.rel ht).val V1) hd).dp
        exact ⟨x, t, _, _, _, b, rfl, upd_same, cls_all Ts, dq_ty D, isAny_kit D hb, q _ F1 _ A2 (.bl b) VNew.dat⟩
      · cases em
    · cases em
  · cases em
end
/-! ### lists of bools, of ints -/
def boolsD : List PyData → Option (List Bool)
  | [] => some []
  | .bool b :: ds => (boolsD ds).map (b :: ·)
  | _ => none
def intsD : List PyData → Option (List Int)
  | [] => some []
  | .int b :: ds => (intsD ds).map (b :: ·)
  | _ => none
theorem boolsD_eq : ∀ {ds : List PyData} {bs : List Bool}, boolsD ds = some bs → ds = bs.map .bool
  | [], _, h => by cases h; rfl
  | d :: ds, bs, h => by
    unfold boolsD at h
    split at h
    · rename_i e; cases e
    · rename_i b ds' e
      cases e
      cases h2 : boolsD ds with
      | none => rw [h2] at h; cases h
      | some cs => rw [h2] at h; cases h; rw [boolsD_eq h2]; rfl
    · cases h
theorem intsD_eq : ∀ {ds : List PyData} {bs : List Int}, intsD ds = some bs → ds = bs.map .int
  | [], _, h => by cases h; rfl
  | d :: ds, bs, h => by
    unfold intsD at h
    split at h
    · rename_i e; cases e
    · rename_i b ds' e
      cases e
      cases h2 : intsD ds with
      | none => rw [h2] at h; cases h
      | some cs => rw [h2] at h; cases h; rw [intsD_eq h2]; rfl
    · cases h
section
variable {K : PySem.W.Frag} {F : Hp}
theorem dq_bools : ∀ {bs : List Bool} {vs : List V}, DqAll K F vs (bs.map .bool) → vs = bs.map V.bl
  | [], _, h => by cases h; rfl
  | b :: bs, _, h => by
    cases h with
    | cons h r => cases h; rw [dq_bools r]; rfl
theorem dq_ints : ∀ {bs : List Int} {vs : List V}, DqAll K F vs (bs.map .int) → vs = bs.map V.int
  | [], _, h => by cases h; rfl
  | b :: bs, _, h => by
    cases h with
    | cons h r => cases h; rw [dq_ints r]; rfl
theorem ints_dq : ∀ (bs : List Int), DqAll K F (bs.map V.int) (bs.map .int)
  | [] => .nil
  | b :: bs => .cons (.int b) (ints_dq bs)
end
def fAll : FA := fun vs fm => match vs with
  | [v] => match peek v fm with
    | some (.list ds) => match boolsD ds with
      | some bs => some (.dat (.bool (bs.all id)), fm)
      | none => none
    | _ => none
  | _ => none
def fAny : FA := fun vs fm => match vs with
  | [v] => match peek v fm with
    | some (.list ds) => match boolsD ds with
      | some bs => some (.dat (.bool (bs.any id)), fm)
      | none => none
    | _ => none
  | _ => none
def fSum : FA := fun vs fm => match vs with
  | [v] => match peek v fm with
    | some (.list ds) => match intsD ds with
      | some bs => some (.dat (.int bs.sum), fm)
      | none => none
    | _ => none
  | _ => none
def sortI (ns : List Int) : List Int := ns.mergeSort fun a b => decide (a ≤ b)
def fSorted : FA := fun vs fm => match vs with
  | [v] => match peek v fm with
    | some (.list ds) => match intsD ds with
      | some bs => some (.fre (.lst ((sortI bs).map .int)), fm)
      | none => none
    | _ => none
  | _ => none
theorem sortI_perm (ns : List Int) : (sortI ns).Perm ns := List.mergeSort_perm _ _
theorem sortI_pair (ns : List Int) : (sortI ns).Pairwise (· ≤ ·) := by
  have h := List.pairwise_mergeSort (le := fun a b : Int => decide (a ≤ b)) (fun a b c h1 h2 => by simp at *; omega) (fun a b => by simp; omega) ns
  exact h.imp fun h => by simpa using h
theorem sortI_uniq {ns ms : List Int} (h : ms.Perm ns) (k : ms.Pairwise (· ≤ ·)) : ms = sortI ns :=
  List.Perm.eq_of_pairwise (fun a b _ _ h1 h2 => Int.le_antisymm h1 h2) k (sortI_pair ns) (h.trans (sortI_perm ns).symm)
section
variable {X : Cx} {K : PySem.W.Frag}
theorem p_all : PrimA K (rAll K) fAll := by
  intro F H σ fm fm' vs xs v R Vs h Q q
  unfold fAll at h
  split at h
  · obtain ⟨y, rfl, V⟩ := vsrel1 Vs
    split at h
    · rename_i ds h1
      split at h
      · rename_i bs hb
        cases h
        obtain ⟨a, ys, rfl, s1, r1⟩ := peek_list R V h1
        have e := boolsD_eq hb
        subst e
        have e := dq_bools r1
        subst e
        exact ⟨a, bs, rfl, s1, q _ F H (Aft.refl R) (.bl _) VNew.dat⟩
      · cases h
    · cases h
  · cases h
theorem p_any : PrimA K (rAny K) fAny := by
  intro F H σ fm fm' vs xs v R Vs h Q q
  unfold fAny at h
  split at h
  · obtain ⟨y, rfl, V⟩ := vsrel1 Vs
    split at h
    · rename_i ds h1
      split at h
      · rename_i bs hb
        cases h
        obtain ⟨a, ys, rfl, s1, r1⟩ := peek_list R V h1
        have e := boolsD_eq hb
        subst e
        have e := dq_bools r1
        subst e
        exact ⟨a, bs, rfl, s1, q _ F H (Aft.refl R) (.bl _) VNew.dat⟩
      · cases h
    · cases h
  · cases h
theorem p_sum : PrimA K (rSum K) fSum := by
  intro F H σ fm fm' vs xs v R Vs h Q q
  unfold fSum at h
  split at h
  · obtain ⟨y, rfl, V⟩ := vsrel1 Vs
    split at h
    · rename_i ds h1
      split at h
      · rename_i bs hb
        cases h
        obtain ⟨a, ys, rfl, s1, r1⟩ := peek_list R V h1
        have e := intsD_eq hb
        subst e
        have e := dq_ints r1
        subst e
        exact ⟨a, bs, rfl, s1, q _ F H (Aft.refl R) (.int _) VNew.dat⟩
      · cases h
    · cases h
  · cases h
theorem p_sorted : PrimA K (rSortedI K) fSorted := by
  intro F H σ fm fm' vs xs v R Vs h Q q
  unfold fSorted at h
  split at h
  · obtain ⟨y, rfl, V⟩ := vsrel1 Vs
    split at h
    · rename_i ds h1
      split at h
      · rename_i bs hb
        cases h
        obtain ⟨a, ys, rfl, s1, r1⟩ := peek_list R V h1
        have e := intsD_eq hb
        subst e
        have e := dq_ints r1
        subst e
        refine ⟨a, bs, rfl, s1, fun ms p hp hs hn => ?_⟩
        have e := sortI_uniq hp hs
        subst e
        exact q _ F _ (Aft.lay R hn) (Aft.newL R hn (ints_dq _)) (VNew.ref hn)
      · cases h
    · cases h
  · cases h
end
end Rf

/-! Rg2d: min, max of a sequence of ints, index, repr. -/
namespace Rf
open PySem PySem.Spec PyProof.Rows L2

def fBest (g : Int → Int → Int) : FA := fun vs fm => match vs with
  | [v] => match peek v fm with
    | some d => match seqD d with
      | some ds => match intsD ds with
        | some (n :: ns) => some (.dat (.int (ns.foldl g n)), fm)
        | _ => none
      | none => none
    | none => none
  | _ => none
def rBest (K : PySem.W.Frag) (g : Int → Int → Int) : List V → Hp → VK → Prop := fun vs H Q => ∃ x d n ns, vs = [x] ∧ Dp K H x d ∧ seqD d = some ((n :: ns).map .int) ∧ Q (.int (ns.foldl g n)) H
section
variable {X : Cx} {K : PySem.W.Frag}
theorem p_best {g : Int → Int → Int} : PrimA K (rBest K g) (fBest g) := by
  intro F H σ fm fm' vs xs v R Vs h Q q
  unfold fBest at h
  split at h
  · obtain ⟨y, rfl, V⟩ := vsrel1 Vs
    split at h
    · rename_i d h1
      split at h
      · rename_i ds hs
        split at h
        · rename_i n ns hb
          cases h
          exact ⟨y, d, n, ns, rfl, (peek_dp R V h1).dp, by rw [hs, intsD_eq hb], q _ F H (Aft.refl R) (.int _) VNew.dat⟩
        · cases h
      · cases h
    · cases h
  · cases h
theorem alike_ints (ns : List Int) : PySem.W.AlikeAll (ns.map .int) := by
  refine ⟨fun x hx y hy => ?_, fun x hx => ?_⟩
  · obtain ⟨i, _, rfl⟩ := List.mem_map.mp hx
    obtain ⟨j, _, rfl⟩ := List.mem_map.mp hy
    rfl
  · obtain ⟨i, _, rfl⟩ := List.mem_map.mp hx
    exact fun e => nomatch e
theorem depth_ints : ∀ ns : List Int, PyData.depthAll (ns.map .int) = 0
  | [] => by simp [PyData.depthAll]
  | n :: ns => by simp [PyData.depthAll, PyData.depth, depth_ints ns]
theorem reads_int {h : Heap} {v : Value} {i : Int} {as : List Addr} (r : Reads h v (.int i) as) : ∃ t, v = .int i t := by
  cases r; exact ⟨_, rfl⟩
theorem call_minX (hc : X.calm = true) (hu : X.A.units + 64 < cLine) : CallR X (.builtin "min") (rBest X.K min) := by
  intro pins s σ H vs us Q I r h
  obtain ⟨x, d, n, ns, rfl, hd, hs, q⟩ := h
  obtain ⟨u, rfl, rx⟩ := vals1 r
  obtain ⟨as, rd⟩ := Dp.reads I d x u hd rx
  have hdp := depth_ints (n :: ns)
  have fin : ∀ (v : Value) (h' : Heap) (tk : Nat) (bs : List Addr), Reads h' v (PySem.W.minD (.int n) (ns.map .int)) bs → (∀ b o, s.heap.get? b = some o → h'.get? b = some o) → EP X pins σ Q v { s with heap := h', toks := tk } := fun v h' tk bs rr hk => by
    rw [PySem.W.minD_ints] at rr
    obtain ⟨t, rfl⟩ := reads_int rr
    exact ⟨.int _, H, I.kept hk, ⟨t, rfl⟩, q⟩
  cases rd with
  | list h1 h2 h3 h4 =>
    cases hs
    exact PySem.W.min_list_data (I.ok.hd hc) ⟨_, h1, h2, _, h3⟩ h4 (alike_ints (n :: ns)) (by show _ + PyData.depthAll ((n :: ns).map .int) < _; rw [hdp]; omega) fun i v h' tk bs _ rr hk => fin v h' tk bs rr hk
  | tuple h1 h2 h3 h4 =>
    cases hs
    exact PySem.W.min_tuple_data (I.ok.hd hc) ⟨_, h1, h2, _, h3⟩ h4 (alike_ints (n :: ns)) (by show _ + PyData.depthAll ((n :: ns).map .int) < _; rw [hdp]; omega) fun i v h' tk bs _ rr hk => fin v h' tk bs rr hk
  | _ => cases hs
theorem call_maxX (hc : X.calm = true) (hu : X.A.units + 64 < cLine) : CallR X (.builtin "max") (rBest X.K max) := by
  intro pins s σ H vs us Q I r h
  obtain ⟨x, d, n, ns, rfl, hd, hs, q⟩ := h
  obtain ⟨u, rfl, rx⟩ := vals1 r
  obtain ⟨as, rd⟩ := Dp.reads I d x u hd rx
  have hdp := depth_ints (n :: ns)
  have fin : ∀ (v : Value) (h' : Heap) (tk : Nat) (bs : List Addr), Reads h' v (PySem.W.maxD (.int n) (ns.map .int)) bs → (∀ b o, s.heap.get? b = some o → h'.get? b = some o) → EP X pins σ Q v { s with heap := h', toks := tk } := fun v h' tk bs rr hk => by
    rw [PySem.W.maxD_ints] at rr
    obtain ⟨t, rfl⟩ := reads_int rr
    exact ⟨.int _, H, I.kept hk, ⟨t, rfl⟩, q⟩
  cases rd with
  | list h1 h2 h3 h4 =>
    cases hs
    exact PySem.W.max_list_data (I.ok.hd hc) ⟨_, h1, h2, _, h3⟩ h4 (alike_ints (n :: ns)) (by show _ + PyData.depthAll ((n :: ns).map .int) < _; rw [hdp]; omega) fun i v h' tk bs _ rr hk => fin v h' tk bs rr hk
  | tuple h1 h2 h3 h4 =>
    cases hs
    exact PySem.W.max_tuple_data (I.ok.hd hc) ⟨_, h1, h2, _, h3⟩ h4 (alike_ints (n :: ns)) (by show _ + PyData.depthAll ((n :: ns).map .int) < _; rw [hdp]; omega) fun i v h' tk bs _ rr hk => fin v h' tk bs rr hk
  | _ => cases hs
/-! index: ints -/
def rIdx (K : PySem.W.Frag) (T : Bool) : V → List V → Hp → VK → Prop := fun x xs H Q => ∃ (a : Addr) (ns : List Int) (k : Int), x = .ref a ∧ xs = [.int k] ∧ (if T = true then SqT K H a (ns.map V.int) else SqL K H a (ns.map V.int)) ∧ k ∈ ns ∧ Q (.int (ns.idxOf k : Nat)) H
def fIdx (T : Bool) : FM := fun o vs fm => match vs with
  | [w] => match peek o fm, peek w fm with
    | some d, some (.int k) => match d, T with
      | .tuple ds, true => (match intsD ds with
        | some ns => if k ∈ ns then some (.dat (.int (ns.idxOf k : Nat)), fm) else none
        | none => none)
      | .list ds, false => (match intsD ds with
        | some ns => if k ∈ ns then some (.dat (.int (ns.idxOf k : Nat)), fm) else none
        | none => none)
      | _, _ => none
    | _, _ => none
  | _ => none
theorem p_idx {T : Bool} : PrimM K (rIdx K T) (fIdx T) := by
  intro F H σ fm fm' o ws x xs v R V D h Q q
  unfold fIdx at h
  split at h
  · rename_i w
    obtain ⟨y, rfl, Vy⟩ := vsrel1 D
    split at h
    · rename_i d k hd hk
      have ey := peek_int R Vy hk
      subst ey
      split at h
      · rename_i ds
        split at h
        · rename_i ns hn
          split at h
          · rename_i hin
            cases h
            obtain ⟨a, ys, rfl, s1, r1⟩ := peek_tup R V hd
            have e := intsD_eq hn
            subst e
            have e := dq_ints r1
            subst e
            exact ⟨a, ns, k, rfl, rfl, s1.1, hin, q _ F H (Aft.refl R) (.int _) VNew.dat⟩
          · cases h
        · cases h
      · rename_i ds
        split at h
        · rename_i ns hn
          split at h
          · rename_i hin
            cases h
            obtain ⟨a, ys, rfl, s1, r1⟩ := peek_list R V hd
            have e := intsD_eq hn
            subst e
            have e := dq_ints r1
            subst e
            exact ⟨a, ns, k, rfl, rfl, s1, hin, q _ F H (Aft.refl R) (.int _) VNew.dat⟩
          · cases h
        · cases h
      · cases h
    · cases h
  · cases h
theorem itemsEq_ints {A : Around} {s : Shared} {its : List Value} {ns : List Int} {k : Int} {t : Tok} (hi : IntsAre its ns) : SeqAt.ItemsEq A s its ns (.int k t) k := by
  refine ⟨hi.length, ?_⟩
  induction hi with
  | nil => intro j h1 _; exact absurd h1 (Nat.not_lt_zero j)
  | cons n t' _ ih =>
    intro j h1 h2
    cases j with
    | zero =>
      have e := SeqAt.EqAt.int_int (A := A) (s := s) n t' k t
      have e2 : (n == k) = decide (n = k) := by
        by_cases z : n = k
        · simp [z]
        · simp [z]
      rw [e2] at e
      exact e
    | succ j => exact ih j (by simpa using h1) (by simpa using h2)
theorem mt_idxT : MtR X "tuple.index" (rIdx X.K true) := by
  intro pins s σ H x xs v us Q I rx rs h
  obtain ⟨a, ns, k, rfl, rfl, hs, hin, q⟩ := h
  cases rx
  obtain ⟨u, rfl, t, rfl⟩ := vals1 rs
  obtain ⟨its, r, pl, hz⟩ := I.tuple (show SqT X.K H a (ns.map V.int) from hs)
  exact SeqAt.call_tuple_index (α := Int) pl (itemsEq_ints r.ints) hin ⟨.int _, H, I.tok _, ⟨_, rfl⟩, q⟩
theorem mt_idxL : MtR X "list.index" (rIdx X.K false) := by
  intro pins s σ H x xs v us Q I rx rs h
  obtain ⟨a, ns, k, rfl, rfl, hs, hin, q⟩ := h
  cases rx
  obtain ⟨u, rfl, t, rfl⟩ := vals1 rs
  obtain ⟨its, r, pl, hz⟩ := I.list (show SqL X.K H a (ns.map V.int) from hs)
  exact SeqAt.call_list_index (α := Int) pl.isList (itemsEq_ints r.ints) (by rw [List.length_map] at hz; exact hz) hin ⟨.int _, H, I.tok _, ⟨_, rfl⟩, q⟩
/-! repr -/
def okRepr (d : PyData) : Bool := d.showable && !d.hasDict && decide (d.depth ≤ 60) && decide (d.shown.length ≤ sizeLine)
def fRepr : FA := fun vs fm => match vs with
  | [v] => match peek v fm with
    | some d => if okRepr d then some (.dat (.str d.shown), fm) else none
    | none => none
  | _ => none
def rRepr (K : PySem.W.Frag) : List V → Hp → VK → Prop := fun vs H Q => ∃ x d, vs = [x] ∧ Dp K H x d ∧ okRepr d = true ∧ Q (.str d.shown) H
theorem p_repr : PrimA K (rRepr K) fRepr := by
  intro F H σ fm fm' vs xs v R Vs h Q q
  unfold fRepr at h
  split at h
  · obtain ⟨y, rfl, V⟩ := vsrel1 Vs
    split at h
    · rename_i d h1
      split at h
      · rename_i ho
        cases h
        exact ⟨y, d, rfl, (peek_dp R V h1).dp, ho, q _ F H (Aft.refl R) (.str _) VNew.dat⟩
      · cases h
    · cases h
  · cases h
theorem call_reprX (hgd : X.A.guards = some []) (hu : X.A.units + 64 < cLine) : CallR X (.builtin "repr") (rRepr X.K) := by
  intro pins s σ H vs us Q I r h
  obtain ⟨x, d, rfl, hd, ho, q⟩ := h
  obtain ⟨u, rfl, rx⟩ := vals1 r
  obtain ⟨as, rd⟩ := Dp.reads I d x u hd rx
  unfold okRepr at ho
  simp only [Bool.and_eq_true, Bool.not_eq_true', decide_eq_true_eq] at ho
  obtain ⟨⟨⟨h1, h2⟩, h3⟩, h4⟩ := ho
  have big : ∀ a, u = .ref a → wpAny (model X.prog X.w) X.A (call (.builtin "repr") [u]) (EP X pins σ Q) X.xe s := fun a e => by
    subst e
    exact repr_of_reads' rd h1 (fun e => by rw [h2] at e; cases e) hgd (by omega) (fun _ _ e => e) (fun h' t tk hk => ⟨.str _, H, I.kept hk, ⟨t, rfl⟩, q⟩) h4
  cases hd with
  | non => cases rx; exact PySem.P.repr_of_none ⟨.str _, H, I.tok _, ⟨_, rfl⟩, q⟩
  | bl b => cases rx; exact PySem.P.repr_of_bool ⟨.str _, H, I.tok _, ⟨_, rfl⟩, q⟩
  | int i =>
    obtain ⟨t, rfl⟩ := rx
    exact PySem.P.repr_of_int (by simpa [PyData.showable] using h1) ⟨.str _, H, I.tok _, ⟨_, rfl⟩, q⟩
  | str z =>
    obtain ⟨t, rfl⟩ := rx
    exact PySem.P.repr_of_str ⟨.str _, H, I.tok _, ⟨_, rfl⟩, q⟩ h4
  | lst _ _ => exact big _ rx
  | tup _ _ => exact big _ rx
end
end Rf

/-! Rh1: calls of defs where it is known that no repr is under way; keywords; a def's body; the law's call. -/
namespace Rf
open PySem PySem.Spec PyProof.Rows L2

/-- a def keeps its promise wherever no guard is on the stack; nothing is raised -/
structure FnG (P : Program) (w : World) (K : PySem.W.Frag) (mg : Str → Option Value) (base : Heap) (k : Nat) (f : Addr) (fd : FuncData) (ps : List Str) (sp : Sp) : Prop where
  len : ∀ vs H Q E, sp vs H Q E → vs.length = ps.length
  go : ∀ {A : Around} {outer : List Env} {s : Shared} {H : Hp} {args : Args} {us : List Value} {vs : List V} {Q : VK} {E : XK}, Room k A → A.guards = some [] → Env0 P w K mg base A outer s H → BindsTo s fd args (ps.zip us) → Vals vs us → sp vs H Q E →
    codeAny (model P w) A (.call (.ref f) args) (CR CX0 outer P w H s Q E) s
section
variable {P : Program} {w : World} {K : PySem.W.Frag} {mg : Str → Option Value} {base : Heap} {f : Addr} {fd : FuncData} {ps : List Str} {sp : Sp}
theorem FnG.mono {j k : Nat} (F : FnG P w K mg base j f fd ps sp) (h : j ≤ k) : FnG P w K mg base k f fd ps sp := ⟨F.len, fun hr => F.go (hr.mono h)⟩
end
section
variable {X : Cx} {k : Nat} {f : Addr} {fd : FuncData} {ps : List Str} {sp : Sp} {x : Str} {p pos : Pos} {e : Expr} {es : List Expr} {E : XK}
theorem run_fnG {pins : List (Addr × Obj)} {σ : L2.St} {H : Hp} {s : Shared} {Q : VK} {us ws : List Value} {vs : List V} {kw : List (Str × Value)} (F : FnG X.prog X.w X.K X.mg X.base k f fd ps sp) (hr : Room k X.A) (hgd : X.A.guards = some [])
    (I : Inv X pins σ H s) (hb : BindsTo s fd ⟨us, kw⟩ (ps.zip ws)) (r : Vals vs ws) (h : sp vs H Q E) : wpAny (model X.prog X.w) X.A (call (.ref f) us kw) (EP X pins σ Q) X.xe s := by
  refine wpAny_call (codeAny_mono (F.go hr hgd I.env0 hb r h) fun res s' out => ?_)
  match res, out with
  | .ok (.ret u), out => exact I.after out
  | .ok .next, out => exact False.elim out
  | .ok .brk, out => exact False.elim out
  | .ok .cont, out => exact False.elim out
  | .error _, out => exact False.elim out
/-- f(a, ..) -/
theorem pe_callG {t : TA} (F : FnG X.prog X.w X.K X.mg X.base k f fd ps sp) (hr : Room k X.A) (hgd : X.A.guards = some []) (hg : Gl X x) (hm : X.mg x = some (.ref f)) (hk : PySem.W.keepIn X.K (.ref f) = true) (hb : Binds X.K fd ps [])
    (ha : PA X (e :: es) t) (hdb : (x == ("__debug__" : Str)) = false) (hs : isStar e = false) (hn : noStars es = true) : PE X (.Call (.Name x p) (e :: es) [] pos) (tCall sp [] E t) := by
  refine ⟨fun pins s σ H Q I h => wpAny_Call_Name_kw (ld_glob I hg hm ?_ hdb)⟩
  refine PySem.W.callWith_K (h₀ := X.base) I.ok.mod.kin hk (thn (ha.run pos pins s σ H _ I h) fun us s1 out => ?_) (star_cons hs) (back_plain hn)
  obtain ⟨vs, H1, I1, r, q⟩ := out
  rw [List.append_nil] at q
  have hl : (us ++ []).length = ps.length := by rw [List.append_nil, ← r.length]; exact F.len _ _ _ _ q
  have b := hb s1 us I1.kIn hl
  rw [List.append_nil] at b
  exact ⟨I1.kIn, run_fnG F hr hgd I1 b r q⟩
/-- f() -/
theorem pe_callG0 (F : FnG X.prog X.w X.K X.mg X.base k f fd ps sp) (hr : Room k X.A) (hgd : X.A.guards = some []) (hg : Gl X x) (hm : X.mg x = some (.ref f)) (hk : PySem.W.keepIn X.K (.ref f) = true) (hb : Binds X.K fd ps [])
    (hdb : (x == ("__debug__" : Str)) = false) : PE X (.Call (.Name x p) [] [] pos) (tCall sp [] E tNil) := by
  refine ⟨fun pins s σ H Q I h => wpAny_Call_Name_kw (ld_glob I hg hm ?_ hdb)⟩
  have q : sp [] H Q E := h
  have b := hb s [] I.kIn (F.len _ _ _ _ q)
  exact PySem.W.callWith_K0 I.kIn hk (run_fnG F hr hgd I b .nil q)
/-- the values in the parameters' order -/
def permL {α : Type} (pm : List Nat) (l : List α) : List α := pm.filterMap fun i => l[i]?
/-- f(a = .., b = ..) -/
def KwB (K : PySem.W.Frag) (fd : FuncData) (ps ks : List Str) (pm : List Nat) : Prop := ∀ (s : Shared) (ws : List Value), K.In s.heap → ws.length = ks.length → BindsTo s fd ⟨[], ks.zip ws⟩ (ps.zip (permL pm ws))
theorem permL_vals {pm : List Nat} {vs : List V} {us : List Value} (r : Vals vs us) : Vals (permL pm vs) (permL pm us) := by
  unfold permL
  induction pm with
  | nil => exact .nil
  | cons i pm ih =>
    rw [List.filterMap_cons, List.filterMap_cons]
    cases h : vs[i]? with
    | none => rw [r.none_of h]; exact ih
    | some v =>
      obtain ⟨u, h1, h2⟩ := r.get h
      rw [h1]
      exact .cons h2 ih
def tCallP (sp : Sp) (pm : List Nat) (n : Nat) (E : XK) (t : TA) : TE := fun σ H Q => t σ H fun vs H1 => vs.length = n ∧ sp (permL pm vs) H1 Q E
theorem pe_callGK {kws : List Keyword} {t : TA} {ks : List Str} {pm : List Nat} (F : FnG X.prog X.w X.K X.mg X.base k f fd ps sp) (hr : Room k X.A) (hgd : X.A.guards = some []) (hg : Gl X x) (hm : X.mg x = some (.ref f)) (hk : PySem.W.keepIn X.K (.ref f) = true) (hb : KwB X.K fd ps ks pm)
    (hkw : PK X kws t) (hdb : (x == ("__debug__" : Str)) = false) (hall : (backToKw pos (keywordEach kws X.env)).all (·.1.isSome) = true) (hks : (backToKw pos (keywordEach kws X.env)).filterMap (·.1) = ks)
    (hpl : ((backTo pos (starEach [] X.env)).any (·.1) || (backToKw pos (keywordEach kws X.env)).any (·.1.isNone)) = false) : PE X (.Call (.Name x p) [] kws pos) (tCallP sp pm ks.length E t) := by
  refine ⟨fun pins s σ H Q I h => wpAny_Call_Name_kw (ld_glob I hg hm ?_ hdb)⟩
  refine PySem.W.callWith_KW0 (h₀ := X.base) I.ok.mod.kin hk hall (thn (hkw.run pos pins s σ H _ I h) fun us s1 out => ?_) hpl
  obtain ⟨vs, H1, I1, r, hl, q⟩ := out
  rw [hks]
  exact ⟨I1.kIn, run_fnG F hr hgd I1 (hb s1 us I1.kIn (by rw [← r.length]; exact hl)) (permL_vals r) q⟩
end
/-! ### several values by places -/
section
variable {K : PySem.W.Frag} {F H : Hp} {σ : L2.St} {fm : Fm}
theorem VsRel.mk : ∀ {vs : List SV} {xs : List V}, vs.length = xs.length → (∀ (k : Nat) (v : SV) (x : V), vs[k]? = some v → xs[k]? = some x → VRel K F H σ fm v x) →
    (∀ (j k : Nat) (c c' : Cell) (x : V), j < k → vs[j]? = some (.fre c) → vs[k]? = some (.fre c') → xs[j]? = some x → xs[k]? ≠ some x) → VsRel K F H σ fm vs xs
  | [], [], _, _, _ => .nil
  | v :: vs, x :: xs, hl, h1, h2 => by
    refine .cons (h1 0 v x rfl rfl) (VsRel.mk (by simpa using hl) (fun k w y e1 e2 => h1 (k + 1) w y (by simpa using e1) (by simpa using e2)) fun j k c c' y hjk e1 e2 e3 => ?_) fun c ec j c' ej => ?_
    · have := h2 (j + 1) (k + 1) c c' y (by omega) (by simpa using e1) (by simpa using e2) (by simpa using e3)
      simpa using this
    · have := h2 0 (j + 1) c c' x (by omega) (by simp [ec]) (by simpa using ej) rfl
      simpa using this
  | [], _ :: _, hl, _, _ => by simp at hl
  | _ :: _, [], hl, _, _ => by simp at hl
theorem VsNew.mk : ∀ {vs : List SV} {xs : List V}, vs.length = xs.length → (∀ (k : Nat) (v : SV) (x : V), vs[k]? = some v → xs[k]? = some x → VNew H v x) → VsNew H vs xs
  | [], [], _, _ => .nil
  | v :: vs, x :: xs, hl, h1 => .cons (h1 0 v x rfl rfl) (VsNew.mk (by simpa using hl) fun k w y e1 e2 => h1 (k + 1) w y (by simpa using e1) (by simpa using e2))
  | [], _ :: _, hl, _ => by simp at hl
  | _ :: _, [], hl, _ => by simp at hl
def okPm (pm : List Nat) (n : Nat) : Bool := decide pm.Nodup && pm.all fun i => decide (i < n)
theorem permL_get {α : Type} {n : Nat} : ∀ {pm : List Nat} {l : List α}, (∀ i ∈ pm, i < n) → l.length = n → ∀ k : Nat, (permL pm l)[k]? = pm[k]?.bind fun i => l[i]?
  | [], _, _, _, k => by simp [permL]
  | i :: pm, l, h, hl, k => by
    have hi : i < l.length := by rw [hl]; exact h i (by simp)
    have e : permL (i :: pm) l = l[i] :: permL pm l := by unfold permL; rw [List.filterMap_cons]; simp [hi]
    rw [e]
    cases k with
    | zero => simp [hi]
    | succ k => simpa using permL_get (n := n) (pm := pm) (fun j hj => h j (by simp [hj])) hl k
theorem permL_len {α : Type} {n : Nat} : ∀ {pm : List Nat} {l : List α}, (∀ i ∈ pm, i < n) → l.length = n → (permL pm l).length = pm.length
  | [], _, _, _ => rfl
  | i :: pm, l, h, hl => by
    have hi : i < l.length := by rw [hl]; exact h i (by simp)
    have e : permL (i :: pm) l = l[i] :: permL pm l := by unfold permL; rw [List.filterMap_cons]; simp [hi]
    rw [e, List.length_cons, List.length_cons, permL_len (n := n) (pm := pm) (fun j hj => h j (by simp [hj])) hl]
def mPermA (pm : List Nat) (n : Nat) (m : MA) : MA := fun fm => match m fm with
  | some (vs, fm1) => if vs.length = n ∧ okPm pm n = true then some (permL pm vs, fm1) else none
  | none => none
theorem tA_perm {pm : List Nat} {n : Nat} {m : MA} {R : List V → Hp → Prop} (h : tA K (mPermA pm n m) σ H R) : tA K m σ H fun xs H1 => xs.length = n ∧ R (permL pm xs) H1 := by
  obtain ⟨F, fm, ws, fm', rel, em, q⟩ := h
  unfold mPermA at em
  split at em
  · rename_i vs fm1 e1
    split at em
    · rename_i hc
      cases em
      refine ⟨F, fm, vs, _, rel, e1, fun xs F1 H1 A V N => ?_⟩
      have hx : xs.length = n := by rw [← V.len]; exact hc.1
      have ho : pm.Nodup ∧ ∀ i ∈ pm, i < n := by
        have := hc.2
        unfold okPm at this
        simpa using this
      have gv := permL_get (l := vs) ho.2 hc.1
      have gx := permL_get (l := xs) ho.2 hx
      have hlen : (permL pm vs).length = (permL pm xs).length := by rw [permL_len ho.2 hc.1, permL_len ho.2 hx]
      refine ⟨hx, q _ F1 H1 A (VsRel.mk hlen (fun k v x e1 e2 => ?_) fun j k c c' x hjk e1 e2 e3 e4 => ?_) (VsNew.mk hlen fun k v x e1 e2 => ?_)⟩
      · rw [gv] at e1; rw [gx] at e2
        obtain ⟨i, hi, e1⟩ := Option.bind_eq_some_iff.mp e1
        rw [hi] at e2
        obtain ⟨y, hy, Vy⟩ := V.get e1
        have e2 : xs[i]? = some x := e2
        rw [hy] at e2; cases e2
        exact Vy
      · rw [gv] at e1 e2; rw [gx] at e3 e4
        obtain ⟨a, ha, e1⟩ := Option.bind_eq_some_iff.mp e1
        obtain ⟨b, hb, e2⟩ := Option.bind_eq_some_iff.mp e2
        rw [ha] at e3; rw [hb] at e4
        have e3 : xs[a]? = some x := e3
        have e4 : xs[b]? = some x := e4
        have ne : a ≠ b := fun z => by
          subst z
          obtain ⟨h1, g1⟩ := List.getElem?_eq_some_iff.mp ha
          obtain ⟨h2, g2⟩ := List.getElem?_eq_some_iff.mp hb
          exact (List.pairwise_iff_getElem.mp ho.1) j k h1 h2 hjk (by rw [g1, g2])
        rcases Nat.lt_or_gt_of_ne ne with hab | hab
        · exact V.apart hab e1 e2 e3 e4
        · exact V.apart hab e2 e1 e4 e3
      · rw [gv] at e1; rw [gx] at e2
        obtain ⟨i, hi, e1⟩ := Option.bind_eq_some_iff.mp e1
        rw [hi] at e2
        have e2 : xs[i]? = some x := e2
        exact N.get e1 e2
    · cases em
  · cases em
end
end Rf

/-! Rh2: a def's body; the law's call. -/
namespace Rf
open PySem PySem.Spec PyProof.Rows L2

section
variable {P : Program} {w : World} {K : PySem.W.Frag} {mg : Str → Option Value} {base : Heap}
theorem fnG_ok {x qual : Str} {st : Stmt} {f : Addr} {fd : FuncData} {N ps : List Str} {k : Nat} {ro : List Nat} {m : MS} (Fn : Fun K x qual st f fd) (S : FnScope N ps (defScope st)) (hro : ∀ i ∈ ro, i < ps.length)
    (hb : ∀ (cdv : Value) (A : Around) (outer : List Env) (s : Shared) (H : Hp) (E : XK), Room k (A.deeper (envOfC qual (defScope st) s.heap.objs.size f cdv)) → A.guards = some [] →
      SSs (cxOf CX0 P w K mg base N qual (defScope st) f cdv A outer s H E).nox ro (defBody st) m) :
    FnG P w K mg base (k + 1) f fd ps (spM K (mkD ps.length N.length ro m)) := by
  obtain ⟨oc, od, kV, doc, pm, an, cdv, ct, osl, rfl, lk, hcd⟩ := Fn.ex
  have hlen : ∀ (vs : List V) (H : Hp) (Q : VK) (E : XK), spM K (mkD ps.length N.length ro m) vs H Q E → vs.length = ps.length := fun vs H Q E h => by
    obtain ⟨F, as, r, outs, R, em, _⟩ := h
    have e := R.len
    rw [List.length_map, List.length_map] at e
    unfold mkD at em
    split at em
    · rename_i hn; rw [← e]; exact hn
    · cases em
  refine ⟨hlen, fun {A outer s H args us vs Q E} hr hgd e0 bt r hsp => ?_⟩
  have hl := hlen _ _ _ _ hsp
  have kin : K.In s.heap := e0.mod.kin.keeps fun b o e => (e0.bs b o e).1
  have lim : s.heap.NoLimit := e0.mod.nolimit.keeps fun b o e => (e0.bs b o e).1
  have kinds : ∀ y ∈ ps.zip us, (defScope st).names.lookup y.1 = some .local ∨ ((defScope st).names.lookup y.1 = some .cell ∧ ((cellsFrom (s.heap.objs.size + 1) (defScope st).names []).lookup y.1).isSome = true) := by
    rintro ⟨n, v⟩ hy
    rcases S.par n (List.of_mem_zip hy).1 with q | q
    · exact .inl q
    · exact .inr ⟨q, PySem.W.cellsFrom_some _ _ _ (.inl q)⟩
  refine codeAny_call_function hr.depth (kin _ _ lk) rfl S.co S.gen rfl (PySem.W.codeRec_of kin hcd) (bt _ _ _ _ ?_)
  refine wpAny_newFunctionEnv_cells S.kind kinds fun env he s1 inc => ?_
  subst he
  refine ⟨lim.keeps inc.toInCall.keep, codeAny_func ?_⟩
  have I : Inv (cxOf CX0 P w K mg base N qual (defScope st) f cdv A outer s H E) [] (L2.start N vs) H s1 := inv_start S hr.hd e0 hl r inc
  have body : PSs (cxOf CX0 P w K mg base N qual (defScope st) f cdv A outer s H E) (defBody st) (tS K ro m) := PSs.nox (hb cdv A outer s H E (hr.deeper _) hgd)
  have start : tS K ro m { nx := fun _ H' => Q .non H', rt := Q } (L2.start N vs) H := by
    obtain ⟨F, as, rr, outs, R, em, q⟩ := hsp
    have e := R.len
    rw [List.length_map, List.length_map] at e
    have hn : as.length = ps.length := e.trans hl
    have b := body_ok (x := x) R hn q em hro
    unfold L2.start
    rw [← e, hn]
    exact b
  refine wpAny_mono (body.run [] s1 (L2.start N vs) H _ I start) (fun fl s' out => ?_) fun _ _ out => out
  match fl, out with
  | .ret u, ⟨v, σ', H', J, rv, q⟩ => exact ⟨v, H', J.os, J.bare, J.base, J.hok, rv, q⟩
  | .next, ⟨σ', H', J, q⟩ => exact ⟨.non, H', J.os, J.bare, J.base, J.hok, rfl, q⟩
  | .brk, ⟨_, _, _, q⟩ => exact False.elim q
  | .cont, ⟨_, _, _, q⟩ => exact False.elim q
end
end Rf

/-! Rh3: the law's call, from the meaning of its def. -/
namespace Rf
open PySem PySem.Spec PyProof.Rows L2

/-- the script as data -/
def scr (ns : List Int) : PyData := .list (ns.map .int)
theorem spM_law {K : PySem.W.Frag} {H : Hp} {a : Addr} {ns : List Int} {D : Dm} {E : XK} (hs : SqL K H a (ns.map V.int)) (h : ∃ outs, D [.dat (scr ns)] = some (.dat (.bool true), outs)) : spM K D [.ref a] H (fun v _ => v = .bl true) E := by
  obtain ⟨outs, h⟩ := h
  refine ⟨H, [.dat (scr ns)], _, outs, ⟨Same.refl _, rfl, fun i d hi => ?_, fun i c hi => ?_, fun i j c c' p _ hi => ?_⟩, h, fun x F' H' _ V _ => ?_⟩
  · cases i with
    | zero =>
      have e : d = scr ns := by simpa [fA] using hi.symm
      subst e
      exact ⟨.ref a, rfl, .lst hs (ints_dq ns)⟩
    | succ i => simp [fA] at hi
  · cases i with
    | zero => simp [fA] at hi
    | succ i => simp [fA] at hi
  · cases i with
    | zero => simp [fA] at hi
    | succ i => simp [fA] at hi
  · cases (show Dq K F' x (.bool true) from V)
    rfl
section
variable {P : Program} {w : World} {K : PySem.W.Frag} {mg mb : Str → Option Value} {k : Nat} {fa a : Addr} {fd : FuncData} {x : Str} {sp : Sp} {s₁ : Shared} {vs : List Value} {ns : List Int}
/-- from an abstract heap that tracks nothing but the script -/
theorem law_coreG (H : Hp) (kx : K.In s₁.heap) (g : s₁.heap.Ns mainGlobals mg) (b : s₁.heap.Ns builtinsNs mb) (bb : ∀ x : Str, x ≠ "__name__" → mb x = bootBuiltins x) (lim : s₁.heap.NoLimit) (gens : s₁.gens = #[])
    (at_ : s₁.heap.get? a = some { cls := .type "list", data := .seq vs.toArray }) (hr : Room k callerA) (F : ∀ base : Heap, K.In base → base.Ns mainGlobals mg → FnG P w K mg base k fa fd [x] sp)
    (hbind : ∀ (s : Shared) (u : Value), BindsTo s fd ⟨[u], []⟩ [(x, u)]) (hO : Only H) (hsp : sp [.ref a] H (fun v _ => v = .bl true) fun _ _ _ => False) (hok : HOk P w H s₁.heap) (one : ∀ b, H b ≠ none → b = a) (out : H a ≠ none → K.lookup a = none) :
    codeAny (model P w) callerA (.call (.ref fa) ⟨[.ref a], []⟩) (fun r s' => r = .ok (.ret (.bool true)) ∧ OldK s₁.heap s'.heap ∧ s'.os = s₁.os ∧ AllBare s'.gens) s₁ := by
  have free : ∀ {c : Addr} {o : Obj}, s₁.heap.get? c = some o → (∀ vs' n, o.data ≠ .seq vs' n) → H c = none := fun {c o} e d => by
    cases q : H c with
    | none => rfl
    | some u =>
      have z := one c (by rw [q]; exact fun z => nomatch z)
      subst z
      rw [at_] at e
      cases e
      exact absurd rfl (d _ _)
  have ns' : ∀ {c : Addr} {m : Str → Option Value}, s₁.heap.Ns c m → (hidT s₁.heap H).Ns c m := fun {c m} z => by
    obtain ⟨o, es, ep, e, d, r⟩ := z
    exact ⟨o, es, ep, hidT_get e (free e fun vs' n z => by rw [d] at z; cases z), d, r⟩
  have kb : K.In (hidT s₁.heap H) := fun c o e => by
    refine hidT_get (kx c o e) ?_
    cases q : H c with
    | none => rfl
    | some u =>
      have z := one c (by rw [q]; exact fun z => nomatch z)
      subst z
      have := out (by rw [q]; exact fun z => nomatch z)
      rw [this] at e
      cases e
  have limb : (hidT s₁.heap H).NoLimit := by
    obtain ⟨mc, h1, h2⟩ := lim
    exact ⟨mc, ns' h1, h2⟩
  have e0 : Env0 P w K mg (hidT s₁.heap H) callerA [] s₁ H := by
    refine ⟨rfl, ⟨kb, ns' g, ⟨mb, ns' b, bb⟩, limb⟩, fun c o e => of_hidT e, Nat.le_of_eq (hidT_size _ _), trivial, fun c hc => ?_, hok, .of_eq gens⟩
    exact absurd (show c ∈ ([] : List Addr) from hc) (by simp)
  refine codeAny_mono ((F _ kb (ns' g)).go (us := [.ref a]) (vs := [.ref a]) hr rfl e0 (hbind s₁ (.ref a)) (.cons rfl .nil) hsp) fun r s' res => ?_
  match r, res with
  | .error _, res => exact False.elim res
  | .ok .next, res => exact False.elim res
  | .ok .brk, res => exact False.elim res
  | .ok .cont, res => exact False.elim res
  | .ok (.ret u), ⟨v, H', os, bare, un, hok', rv, q⟩ =>
    cases (show v = .bl true from q)
    obtain rfl : u = Value.bool true := rv
    refine ⟨rfl, OldK.of_keep fun c o e => ?_, os, bare⟩
    cases z : H c with
    | none => exact un.keep c o e z (fun z => absurd (show c ∈ ([] : List Addr) from z) (by simp)) (by simp)
    | some u =>
      rcases hO c with y | ⟨ob, xs, y⟩
      · rw [z] at y; cases y
      · have e1 := (hok c _ y).1
        have e2 := (hok' c _ (un.frzs c ob _ y)).1
        rw [e] at e1; cases e1
        exact e2
theorem law_callG (kx : K.In s₁.heap) (g : s₁.heap.Ns mainGlobals mg) (b : s₁.heap.Ns builtinsNs mb) (bb : ∀ x : Str, x ≠ "__name__" → mb x = bootBuiltins x) (lim : s₁.heap.NoLimit) (gens : s₁.gens = #[])
    (at_ : s₁.heap.get? a = some { cls := .type "list", data := .seq vs.toArray }) (hi : IntsAre vs ns) (hl : ns.length ≤ sizeLine) (hr : Room k callerA) (F : ∀ base : Heap, K.In base → base.Ns mainGlobals mg → FnG P w K mg base k fa fd [x] sp)
    (hbind : ∀ (s : Shared) (u : Value), BindsTo s fd ⟨[u], []⟩ [(x, u)]) (hsp : ∀ H : Hp, Only H → SqL K H a (ns.map V.int) → sp [.ref a] H (fun v _ => v = .bl true) fun _ _ _ => False) :
    codeAny (model P w) callerA (.call (.ref fa) ⟨[.ref a], []⟩) (fun r s' => r = .ok (.ret (.bool true)) ∧ OldK s₁.heap s'.heap ∧ s'.os = s₁.os ∧ AllBare s'.gens) s₁ := by
  have rv := vals_ints hi
  have hn := hi.length
  cases hk : K.lookup a with
  | some o =>
    have e := kx a o hk
    rw [at_] at e
    cases e
    have sq : SqL K (fun _ => none) a (ns.map V.int) := .inr ⟨_, vs.toArray, _, hk, rfl, rfl, rfl, by rw [List.size_toArray, hn]; exact hl, by simpa using rv⟩
    have ho : Only (fun _ => none) := fun _ => .inl rfl
    exact law_coreG (fun _ => none) kx g b bb lim gens at_ hr F hbind ho (hsp _ ho sq) (fun c u z => nomatch (show (none : Option HO) = some u from z)) (fun c z => absurd rfl z) fun z => absurd rfl z
  | none =>
    have ho : Only (upd (fun _ => none) a (.frz { cls := .type "list", data := .seq vs.toArray } (.lst (ns.map V.int)))) := fun c => by
      by_cases z : c = a
      · subst z; exact .inr ⟨_, _, upd_same⟩
      · exact .inl (by rw [upd_ne z])
    refine law_coreG _ kx g b bb lim gens at_ hr F hbind ho (hsp _ ho (.inl (.inr ⟨_, upd_same⟩))) (fun c u z => ?_) (fun c z => ?_) fun _ => hk
    · by_cases e : c = a
      · subst e
        rw [upd_same] at z
        cases z
        exact ⟨at_, by rw [List.length_map]; exact hl, vs, _, rv, at_⟩
      · rw [upd_ne e] at z; cases z
    · by_cases e : c = a
      · exact e
      · rw [upd_ne e] at z; exact absurd rfl z
end
theorem walk_ofG {l : PySem.W.OpenLaw} {n k : Nat} {q : Program} {loose : List Str} {XP : (Str → Option Value) → Heap → Prop} {YP : World → Heap → Prop} {d : DefRec} {K : Params → PySem.W.Frag} {x : Str} {D : Dm}
    (hn : l.most = some n) (hn2 : n ≤ sizeLine) (hdf : d.params.defaults = []) (hr : Room k callerA) (hY : ∀ (w : World) (h : Heap), YP w h → (K w.params).In h)
    (F : ∀ (w : World) (mg : Str → Option Value) (fa : Addr) (h : Heap), (K w.params).In h → h.Ns mainGlobals mg → mg d.name = some (.ref fa) →
      ∃ fd : FuncData, (∀ (s : Shared) (u : Value), BindsTo s fd ⟨[u], []⟩ [(x, u)]) ∧ ∀ base : Heap, (K w.params).In base → base.Ns mainGlobals mg → FnG l.prog w (K w.params) mg base k fa fd [x] (spM (K w.params) D))
    (hD : ∀ ns : List Int, ns.length ≤ n → ∃ outs, D [.dat (scr ns)] = some (.dat (.bool true), outs)) : PySem.W.WalkO q loose XP YP l.row.toRowW d [] (fun f vs => PySem.call f vs) := by
  refine Att.attach_call hn hdf fun w s₀ s₁ mg mb fa o pm cd doc a vs ns G Y ho hd hcd hmg hobj hints hlen hg => ?_
  have kx := hY w _ Y
  obtain ⟨fd, hb, hF⟩ := F w mg fa _ kx G.T.g hmg
  exact law_callG kx G.T.g G.T.b G.T.builtins G.T.nolimit hg hobj hints (Nat.le_trans hlen hn2) hr hF hb fun H _ hS => spM_law hS (hD ns hlen)
end Rf

/-! Ri1: insert, xs[::-1], xs[a:b] = ys, sorted(set(t)), t * n, tuple(range(a, b)). -/
namespace Rf
open PySem PySem.Spec PyProof.Rows L2

section
variable {K : PySem.W.Frag}
def rIns : V → List V → Hp → VK → Prop := fun x vs H Q => ∃ (l : Addr) (xs : List V) (i : Int) (y : V), x = .ref l ∧ vs = [.int i, y] ∧ H l = some (.lst xs) ∧ xs.length < sizeLine ∧ 0 ≤ i ∧ i < 2 ^ 63 ∧ Q .non (upd H l (.lst (xs.take i.toNat ++ [y] ++ xs.drop i.toNat)))
theorem p_insert : PrimZ K rIns fInsert := by
  intro F H σ fm fm' o ds x xs v R V D h Q q
  unfold fInsert at h
  split at h
  · rename_i i k d
    obtain ⟨hx, _⟩ := V
    cases D with
    | cons D1 D2 =>
      cases D2 with
      | cons D2 D3 =>
        cases D3
        cases D1
        split at h
        · rename_i es hi
          split at h
          · rename_i hl
            cases h
            obtain ⟨p, vs, rfl, hs, hp, r⟩ := R.ownL hi hx
            refine ⟨p, vs, k, _, rfl, rfl, hp, by rw [dpAll_len r]; exact hl.1, hl.2.1, hl.2.2, ?_⟩
            exact q _ F _ (Aft.write R hi hs (dpAll_app (dpAll_app (dpAll_take _ r) (.cons D2 .nil)) (dpAll_drop _ r))) .non VNew.dat
          · cases h
        · cases h
  · cases h
end
/-! ### xs[::-1] -/
section
variable {prog : Program} {w : World} {A : Around} {E : Value → Shared → Prop} {s : Shared}
theorem fm_congr {α β : Type} {f g : α → Option β} : ∀ {l : List α}, (∀ a ∈ l, f a = g a) → l.filterMap f = l.filterMap g
  | [], _ => rfl
  | a :: l, h => by
    rw [List.filterMap_cons, List.filterMap_cons, h a (by simp), fm_congr fun b hb => h b (by simp [hb])]
theorem back_pick (xs : Array Value) : ((List.range xs.size).filterMap fun (k : Nat) => xs[((xs.size : Int) - 1 + (k : Int) * -1).toNat]?).toArray = xs.toList.reverse.toArray := by
  congr 1
  have e : ((List.range xs.size).filterMap fun (k : Nat) => xs[((xs.size : Int) - 1 + (k : Int) * -1).toNat]?) = (List.range xs.size).map fun k => xs.toList.reverse.getD k .none := by
    rw [← List.filterMap_eq_map]
    refine fm_congr fun k hk => ?_
    have hk := List.mem_range.mp hk
    have e1 : ((xs.size : Int) - 1 + (k : Int) * -1).toNat = xs.size - 1 - k := by omega
    rw [e1, Array.getElem?_eq_getElem (by omega)]
    show some _ = some _
    congr 1
    show _ = xs.toList.reverse.getD k .none
    rw [List.getD_eq_getElem?_getD, List.getElem?_reverse (by simpa using hk)]
    simp only [Array.length_toList]
    rw [Array.getElem?_toList, Array.getElem?_eq_getElem (by omega)]
    rfl
  rw [e]
  refine List.ext_getElem (by simp) fun i h1 h2 => ?_
  simp only [List.getElem_map, List.getElem_range]
  rw [List.getD_eq_getElem?_getD, List.getElem?_eq_getElem h2]
  rfl
theorem tuple_back {t sl : Addr} {items : Array Value} {vl vu vk : Value} {Q : Value → Shared → Prop} (ht : IsTup s.heap t items) (hs : s.heap.IsSliceOf sl vl vu vk) (pl : IsPart vl none) (pu : IsPart vu none) (pk : IsPart vk (some (-1)))
    (h : Q (.ref s.heap.objs.size) { s with heap := s.heap.push { cls := .type "tuple", data := .seq items.toList.reverse.toArray } }) (hsz : items.size ≤ sizeLine) : wpAny (model prog w) A (getItem (.ref t) (.ref sl)) Q E s := by
  have fits : sizeOk (.seq items.toList.reverse.toArray) := by
    show items.toList.reverse.toArray.size ≤ sizeLine
    simpa using hsz
  obtain ⟨os, hos, hcs, hds⟩ := id hs
  have isS : s.TypeIs (.ref sl) "slice" := ⟨os, hos, hcs⟩
  unfold getItem
  try with_reducible refine wpAny_holding ?_
  first
    | refine wpAny_bind (wpAny_pure ?_)
    | skip
  refine wpAny_bind (wpAny_sequenceKey ht.typeIs (by decide) (wpAny_bind (wpAny_callSpecial?_slot (name := Str.ofString "__getitem__") ht.typeIs PyProof.Rows.slot_tuple_getitem (wpAny_call_entry PyProof.Rows.slot_tuple_getitem ht.typeIs entry_tuple_getitem ?_ (args_tuple_getitem _ _)))))
  show wpAny _ _ (Builtin.Tuple.tupleItemsOf (.ref t) >>= _) _ _ s
  refine wpAny_bind (tupleItemsOf_ ht (wpAny_bind (wpAny_typeOf isS ?_)))
  rw [if_pos (by decide)]
  have applied : ∀ {Q' : Int × Int × Nat → Shared → Prop}, Q' ((items.size : Int) - 1, -1, items.size) s → wpAny (model prog w) A.in1 (Builtin.Slice.sliceApplied (.ref sl) (pure (items.size : Int))) Q' E s := fun {Q'} q => by
    unfold Builtin.Slice.sliceApplied Builtin.Slice.sliceFields
    refine wpAny_bind (wpAny_bind (wpAny_field hos hds (x := vl) rfl (wpAny_bind (wpAny_field hos hds (x := vu) rfl (wpAny_bind (wpAny_field hos hds (x := vk) rfl (wpAny_pure ?_)))))))
    refine wpAny_bind (HT.slicePart_ pk ?_)
    show wpAny _ _ (if ((-1 : Int) == 0) = true then _ else _) _ _ s
    rw [if_neg (by decide)]
    refine wpAny_bind (HT.slicePart_ pl (wpAny_bind (HT.slicePart_ pu (wpAny_bind (wpAny_pure ?_)))))
    have e : Builtin.Slice.slicePlaces ((items.size : Int) - 1) (-1) (-1) = items.size := by
      unfold Builtin.Slice.slicePlaces
      have h1 : ¬ ((-1 : Int) > 0) := by omega
      simp only [h1, if_false, Int.neg_neg, Int.ediv_one]
      split <;> omega
    show wpAny _ _ (pure (((items.size : Int) - 1), (-1 : Int), Builtin.Slice.slicePlaces ((items.size : Int) - 1) (-1) (-1))) _ _ s
    rw [e]
    exact wpAny_pure q
  refine wpAny_bind (applied ?_)
  have no : ¬ ((((items.size : Int) - 1) == 0 && (-1 : Int) == 1 && items.size == items.size) = true) := by simp
  show wpAny _ _ (if (((items.size : Int) - 1) == 0 && (-1 : Int) == 1 && items.size == items.size) = true then _ else _) _ _ s
  rw [if_neg no, back_pick]
  first
    | exact wpAny_bind (m := Builtin.Tuple.tupleExact _) (wpAny_newObj_type (wpAny_pure ⟨_, rfl, wpAny_pure h⟩) fits)
    | exact wpAny_bind (m := Builtin.Tuple.tupleExact _) (wpAny_newObj_type (wpAny_bind (wpAny_pure (wpAny_pure ⟨_, rfl, wpAny_pure h⟩))) fits)
    | exact wpAny_bind (wpAny_bind (m := Builtin.Tuple.tupleExact _) (wpAny_newObj_type (wpAny_pure (wpAny_pure ⟨_, rfl, wpAny_pure h⟩)) fits))
    | exact wpAny_bind (wpAny_bind (m := Builtin.Tuple.tupleExact _) (wpAny_newObj_type (wpAny_pure ⟨_, rfl, wpAny_pure h⟩) fits))
end
/-- xs[::-1]: a list | a tuple -/
def rBack (K : PySem.W.Frag) (x : V) (H : Hp) (Q : VK) : Prop := (∃ a xs, x = .ref a ∧ SqL K H a xs ∧ ∀ p, H p = none → Q (.ref p) (upd H p (.lst xs.reverse))) ∨ ∃ a xs, x = .ref a ∧ SqT K H a xs ∧ rNewP xs.reverse H Q
section
variable {X : Cx}
theorem pe_back {e : Expr} {te : TE} {k : Nat} {p1 p2 p3 pos : Pos} (he : PE X e te) : PE X (.Subscript e (.Slice none none (some (.UnaryOp .USub (.Constant (.int 1) k p1) p2)) p3) pos) (fun σ H Q => te σ H fun x H1 => rBack X.K x H1 Q) := by
  refine ⟨fun pins s σ H Q I h => Subscript_ (thn (he.run pins s σ H _ I h) fun v s1 got => ?_)⟩
  obtain ⟨x, H1, I1, r1, q⟩ := got
  have hst : PO X (some (.UnaryOp .USub (.Constant (.int 1) k p1) p2)) (tPart (tUn (rU fun i => .int (-i)) (tC (.int 1)))) := po_some (pe_un un_neg pe_int)
  refine wpAny_Slice (thn (po_none.run pins s1 σ H1 (fun o H2 => o = none ∧ H2 = H1) I1 ⟨rfl, rfl⟩) fun vl s2 g2 => ?_)
  obtain ⟨l, H2, I2, pl, rfl, rfl⟩ := g2
  refine thn (po_none.run pins s2 σ H2 (fun o H3 => o = none ∧ H3 = H2) I2 ⟨rfl, rfl⟩) fun vu s3 g3 => ?_
  obtain ⟨u, H3, I3, pu, rfl, rfl⟩ := g3
  refine thn (hst.run pins s3 σ H3 (fun o H4 => o = some (-1) ∧ H4 = H3) I3 ⟨1, rfl, -1, rfl, rfl, rfl⟩) fun vs s4 g4 => ?_
  obtain ⟨o, H4, I4, ps, rfl, rfl⟩ := g4
  have I5 : Inv X pins σ H4 { s4 with heap := s4.heap.push { cls := .type "slice", data := .fields #[vl, vu, vs] } } := I4.kept (t' := s4.toks) fun b ob q => Heap.get?_push_of_some _ q
  rcases q with ⟨a, xs, rfl, hx, q⟩ | ⟨a, xs, rfl, hx, q⟩
  · cases r1
    obtain ⟨its, r, ht, hz⟩ := I5.list hx
    have hlen := r.length
    show wpAny (model X.prog X.w) X.A (subscriptTail e (.Slice none none (some (.UnaryOp .USub (.Constant (.int 1) k p1) p2)) p3) (.ref a) (.ref s4.heap.objs.size)) (EP X pins σ Q) X.xe _
    refine tail_any (ops := [.ref a, .ref s4.heap.objs.size]) ht.isList.typeIs (PySem.slot_list_getitem.lookup) (wpAny_getItem_list_slice ht.isList (Heap.IsSliceOf.new _ vl vu vs) pl pu ps (by decide) ?_ (by rw [List.size_toArray]; omega)) (by with_unfolding_all rfl)
    rw [PySem.W.krv_pick]
    refine ⟨.ref _, _, I5.laid (t' := s4.toks) (o := .lst xs.reverse) (fun b ob q => Heap.get?_push_of_some _ q) (Nat.le_refl _) ?_, rfl, q _ (I5.hok.fresh (Nat.le_refl _))⟩
    refine ⟨?_, its.reverse, 0, r.reverse, Heap.get?_push_size _ rfl⟩
    rw [List.length_reverse]; exact hz
  · cases r1
    obtain ⟨its, r, ht, hz⟩ := I5.tuple hx
    have hlen := r.length
    show wpAny (model X.prog X.w) X.A (subscriptTail e (.Slice none none (some (.UnaryOp .USub (.Constant (.int 1) k p1) p2)) p3) (.ref a) (.ref s4.heap.objs.size)) (EP X pins σ Q) X.xe _
    refine tail_any (ops := [.ref a, .ref s4.heap.objs.size]) ht.typeIs (PyProof.Rows.slot_tuple_getitem.lookup) (tuple_back ht (Heap.IsSliceOf.new _ vl vu vs) pl pu ps ?_ (by rw [List.size_toArray]; omega)) (by with_unfolding_all rfl)
    exact ⟨.ref _, _, inv_newP (t' := s4.toks) I5 (r.reverse) (by rw [List.length_reverse]; exact hz) (by simp), rfl, q _ _ (I5.hok.fresh (Nat.le_refl _)) rfl⟩
def fBack : F1 := fun v fm => match peek v fm with
  | some (.list ds) => some (.fre (.lst ds.reverse), fm)
  | some (.tuple ds) => some (.dat (.tuple ds.reverse), fm)
  | _ => none
theorem p_back {K : PySem.W.Frag} : Prim1 K (rBack K) fBack := by
  intro F H σ fm fm' va x v R Va h Q q
  unfold fBack at h
  split at h
  · rename_i ds h1
    cases h
    obtain ⟨a, ys, rfl, s1, r1⟩ := peek_list R Va h1
    exact .inl ⟨a, ys, rfl, s1, fun p hp => q _ F _ (Aft.lay R hp) (Aft.newL R hp (dpAll_rev r1)) (VNew.ref hp)⟩
  · rename_i ds h1
    cases h
    obtain ⟨a, ys, rfl, s1, r1⟩ := peek_tup R Va h1
    exact .inr ⟨a, ys, rfl, s1.1, fun p o hp hd => q _ _ _ (Aft.layF R hp) (Aft.newT R hp hd (dpAll_rev r1)) VNew.dat⟩
  · cases h
theorem se_back {e : Expr} {m : ME} {k : Nat} {p1 p2 p3 pos : Pos} (h : SE X e m) : SE X (.Subscript e (.Slice none none (some (.UnaryOp .USub (.Constant (.int 1) k p1) p2)) p3) pos) (m1 fBack m) := pe_le (pe_back h) fun σ H Q h => tE_1 p_back h
end
end Rf

/-! Ri2: xs[a:b] = ys. -/
namespace Rf
open PySem PySem.Spec PyProof.Rows L2

section
variable {prog : Program} {w : World} {A : Around} {E : Value → Shared → Prop} {s : Shared}
theorem bounds_up {a c : Int} {n : Nat} (h0 : 0 ≤ a) (hac : a ≤ c) : sliceBounds (some a) (some c) none n = (((min a.toNat n : Nat) : Int), ((min c.toNat n : Nat) : Int), 1) := by
  obtain ⟨h1, h2, h3⟩ := slice_bounds (some a) (some c) n
  have e1 : HT.sIx n 0 (some a) = min a.toNat n := by
    show (if a < 0 then _ else _) = _
    rw [if_neg (by omega)]
  have e2 : HT.sIx n n (some c) = min c.toNat n := by
    show (if c < 0 then _ else _) = _
    rw [if_neg (by omega)]
  rw [e1] at h1
  rw [e2] at h2
  exact Prod.ext h1 (Prod.ext h2 h3)
set_option maxRecDepth 100000 in
theorem splice_store {l b sl : Addr} {items new : Array Value} {n : Nat} {vl vu : Value} {a c : Int} {ob : Obj} {n2 : Nat} {Q : Unit → Shared → Prop} (el : s.heap.get? l = some { cls := .type "list", data := .seq items n })
    (eb : s.heap.get? b = some ob) (cb : ob.cls = .type "list") (db : ob.data = .seq new n2) (ne : l ≠ b) (hs : s.heap.IsSliceOf sl vl vu .none) (pl : IsPart vl (some a)) (pu : IsPart vu (some c)) (h0 : 0 ≤ a) (hac : a ≤ c) (fits : items.size + new.size ≤ sizeLine)
    (h : Q () { s with heap := s.heap.update l (Obj.mapSeq fun xs => xs.extract 0 (min a.toNat items.size) ++ new ++ xs.extract (min c.toNat items.size) xs.size) }) : wpAny (model prog w) A (setItem (.ref l) (.ref sl) (.ref b)) Q E s := by
  have isL : s.heap.IsList l items := PySem.IsL.isList el
  have isB : s.heap.IsList b new := ⟨ob, eb, cb, n2, db⟩
  obtain ⟨os, hos, hcs, hds⟩ := id hs
  have isS : s.TypeIs (.ref sl) "slice" := ⟨os, hos, hcs⟩
  have step : ¬ ((rawPart none == rawInt 0) = true) := Bool.false_ne_true
  have other : Builtin.List.listSameRef (.ref l) (.ref b) = false := by unfold Builtin.List.listSameRef; exact beq_eq_false_iff_ne.mpr ne
  have top : (max (((min a.toNat items.size : Nat)) : Int) (((min c.toNat items.size : Nat)) : Int)).toNat = min c.toNat items.size := by omega
  have small : ((fun xs : Array Value => xs.extract 0 (min a.toNat items.size) ++ new ++ xs.extract (min c.toNat items.size) xs.size) items).size ≤ sizeLine + 1 := by simp only [Array.size_append, Array.size_extract]; omega
  unfold setItem
  try with_reducible refine wpAny_holding ?_
  first
    | refine wpAny_bind (wpAny_pure ?_)
    | skip
  refine wpAny_bind (wpAny_sequenceKey isL.typeIs (by decide) (wpAny_bind (wpAny_callSpecial?_slot (name := Str.ofString "__setitem__") isL.typeIs slot_list_setitem (wpAny_call_entry slot_list_setitem isL.typeIs entry_list_setitem ?_ (args_list_setitem _ _ _)))))
  show wpAny _ _ (Builtin.List.listSubscript? (.ref sl) >>= _) _ _ s
  refine wpAny_bind ?_
  unfold Builtin.List.listSubscript?
  refine wpAny_bind (wpAny_specialOf isS slice_no_index ?_)
  simp only [Option.isNone_none, if_true]
  refine wpAny_pure ?_
  show wpAny _ _ (typeOf (.ref sl) >>= _) _ _ s
  refine wpAny_bind (wpAny_typeOf isS ?_)
  first
    | refine PySem.W.KFB.if_not (by decide) ?_
    | rw [if_neg (by decide)]
  rw [listSliceParts_eq]
  refine wpAny_bind (wpAny_bind (wpAny_field hos hds (x := .none) rfl (wpAny_bind (wpAny_listPart .none ?_))))
  rw [if_neg step]
  refine wpAny_bind (wpAny_field hos hds (x := vl) rfl (wpAny_bind (wpAny_listPart pl (wpAny_bind (wpAny_field hos hds (x := vu) rfl (wpAny_bind (wpAny_listPart pu (wpAny_pure ?_))))))))
  first
    | refine PySem.W.KFB.if_not other ?_
    | simp only [other, Bool.false_eq_true, if_false]
  refine wpAny_bind (m := Builtin.List.listAllItems (.ref b) "must assign iterable to extended slice") ?_
  unfold Builtin.List.listAllItems
  refine wpAny_bind (wpAny_typeOf isB.typeIs ?_)
  first
    | refine PySem.W.KFB.if_so (by decide) ?_
    | rw [if_pos (by decide)]
  unfold Builtin.List.listItems
  refine wpAny_bind (wpAny_seqItems eb db (wpAny_pure (wpAny_bind (wpAny_bind (wpAny_seqItems el rfl (wpAny_pure ?_))))))
  refine wpAny_bind (wpAny_of_eq ((sliceIndices_raw (some a) (some c) none items.size (by simp)).trans (congrArg (pure : Int × Int × Int → Sem (Int × Int × Int)) (bounds_up h0 hac))) ?_)
  show wpAny _ _ (if ((1 : Int) == 1) = true then _ else _) _ _ s
  rw [if_pos (by decide)]
  refine wpAny_bind (wpAny_rule ?_)
  first
    | refine PySem.W.KFB.if_not (notLongL fits) ?_
    | simp only [notLongL fits, Bool.false_eq_true, if_false]
  first
    | refine wpAny_bind (wpAny_pure ?_)
    | skip
  show wpAny _ _ (updateSeq l (fun xs => xs.extract 0 (((min a.toNat items.size : Nat)) : Int).toNat ++ new ++ xs.extract (max (((min a.toNat items.size : Nat)) : Int) (((min c.toNat items.size : Nat)) : Int)).toNat xs.size) >>= _) _ _ s
  rw [top, Int.toNat_natCast]
  refine wpAny_bind (wpAny_updateSeq (hz := Nat.le_trans (Nat.le_add_right _ _) fits) (_hz' := small) el rfl (wpAny_bind (wpAny_letGo ?_)))
  first
    | exact wpAny_bind (wpAny_pure (wpAny_pure ⟨.none, rfl, wpAny_pure h⟩))
    | exact wpAny_pure ⟨.none, rfl, wpAny_pure h⟩
end
def tSplice (K : PySem.W.Frag) (to : TE) (tl th : TO) : TG := fun v σ H Q => to σ H fun o H1 => tl σ H1 fun lo H2 => th σ H2 fun hi H3 => ∃ l b xs ys a c, o = .ref l ∧ v = .ref b ∧ H3 l = some (.lst xs) ∧ SqL K H3 b ys ∧ (l ≠ b ∨ K.lookup b ≠ none) ∧ lo = some a ∧ hi = some c ∧ 0 ≤ a ∧ a ≤ c ∧
  xs.length + ys.length ≤ sizeLine ∧ Q σ (upd H3 l (.lst (xs.take a.toNat ++ ys ++ xs.drop c.toNat)))
section
variable {X : Cx} {o : Expr} {lo hi : Option Expr} {p2 pos : Pos}
theorem pg_splice {to : TE} {tl th : TO} (ho : PE X o to) (hl : PO X lo tl) (hh : PO X hi th) : PG X (.Subscript o (.Slice lo hi none p2) pos) (tSplice X.K to tl th) := by
  refine ⟨fun pins s σ H v u Q I r h => ?_⟩
  show wpAny _ _ (do
    let ov ← holding [u] (eval o X.env)
    let iv ← holding [u, ov] (eval (.Slice lo hi none p2) X.env)
    standAt pos
    holding [u, ov, iv] (setItem ov iv u)
    release [iv, u, ov] []) _ _ s
  refine wpAny_bind (wpAny_holding (thn (ho.run pins s σ H _ I h) fun ov s1 got => ?_))
  obtain ⟨x, H1, I1, r1, q1⟩ := got
  refine wpAny_bind (wpAny_holding ?_)
  refine wpAny_Slice (thn (hl.run pins s1 σ H1 _ I1 q1) fun vl s2 got => ?_)
  obtain ⟨lo', H2, I2, pl, q2⟩ := got
  refine thn (hh.run pins s2 σ H2 _ I2 q2) fun vu s3 got => ?_
  obtain ⟨hi', H3, I3, pu, l, b, xs, ys, a, c, rfl, rfl, hH, hB, ne, rfl, rfl, h0, hac, fits, q⟩ := got
  rw [evalPart_none]
  cases r1
  cases r
  have I4 : Inv X pins σ H3 { s3 with heap := s3.heap.push { cls := .type "slice", data := .fields #[vl, vu, .none] } } := I3.kept (t' := s3.toks) fun b ob q => Heap.get?_push_of_some _ q
  have ne : l ≠ b := by
    rcases ne with ne | ne
    · exact ne
    · intro z
      subst z
      cases hk : X.K.lookup l with
      | none => exact ne hk
      | some ok =>
        have := (I4.bs l ok (I4.ok.mod.kin l ok hk)).2
        rw [hH] at this
        cases this
  obtain ⟨z, its, n, rl, lenl, el⟩ := I4.lstM hH
  obtain ⟨itb, rb, ⟨ob, n2, eb, cb, _, db⟩, _⟩ := I4.list hB
  refine wpAny_pure ?_
  refine wpAny_bind (wpAny_standAt (wpAny_bind (wpAny_holding ?_)))
  have lenb := rb.length
  refine splice_store el eb cb db ne (Heap.IsSliceOf.new _ vl vu .none) pl pu h0 hac (by rw [List.size_toArray, List.size_toArray]; omega) ?_
  refine wpAny_release ⟨σ, _, I4.lset (its' := its.take a.toNat ++ itb ++ its.drop c.toNat) (t' := s3.toks) hH el ?_ (Vals.append (Vals.append (rl.take _) rb) (rl.drop _)) ?_, q⟩
  · show _ = _
    have e1 : its.take (min a.toNat its.length) = its.take a.toNat := by
      by_cases z : a.toNat ≤ its.length
      · rw [Nat.min_eq_left z]
      · rw [Nat.min_eq_right (by omega), List.take_of_length_le (Nat.le_refl _), List.take_of_length_le (by omega)]
    have e2 : its.drop (min c.toNat its.length) = its.drop c.toNat := by
      by_cases z : c.toNat ≤ its.length
      · rw [Nat.min_eq_left z]
      · rw [Nat.min_eq_right (by omega), List.drop_eq_nil_of_le (Nat.le_refl _), List.drop_eq_nil_of_le (by omega)]
    have e3 := splice_eq its itb (min a.toNat its.length) (min c.toNat its.length)
    rw [e1, e2] at e3
    simp only [List.size_toArray] at e3 ⊢
    exact e3
  · rw [List.length_append, List.length_append, List.length_take, List.length_drop]
    omega
/-- as a target: the object of slot i, from lo to hi -/
def gSplice (i : Nat) (ml mh : MO) : MG := fun d fm => match d with
  | .list es => match fm[i]? with
    | some (some (.own _)) => match ml fm with
      | some (some a, fm1) => match mh fm1 with
        | some (some c, fm2) => match fm2[i]? with
          | some (some (.own (.lst xs))) => if 0 ≤ a ∧ a ≤ c ∧ xs.length + es.length ≤ sizeLine then some (fm2.set i (some (.own (.lst (xs.take a.toNat ++ es ++ xs.drop c.toNat))))) else none
          | _ => none
        | _ => none
      | _ => none
    | _ => none
  | _ => none
theorem sg_splice {ro : List Nat} {i : Nat} {x : Str} {p1 : Pos} {ml mh : MO} (hN : X.N[i]? = some x) (hv : Vis X.env.scope x) (hd : (x == ("__debug__" : Str)) = false) (hcd : (x == ("__classdict__" : Str)) = false) (hl : SO X lo ml) (hh : SO X hi mh) :
    SG X (Dq X.K) ro (.Subscript (.Name x p1) (.Slice lo hi none p2) pos) (gSplice i ml mh) :=
  pg_le (pg_splice (pe_var hN hv hd hcd) hl hh) fun v σ H Q ⟨F, fm, d, fm', R, D, em, q⟩ => by
    unfold gSplice at em
    split at em
    · rename_i es
      cases D with
      | @lst b ys _ sb rb =>
        split at em
        · rename_i cl hi'
          obtain ⟨p, hy, hf, hc⟩ := R.own i cl hi'
          split at em
          · rename_i a fm1 e1
            split at em
            · rename_i c fm2 e2
              split at em
              · rename_i xs h1
                split at em
                · rename_i hk
                  cases em
                  refine ⟨.ref p, hy, F, fm, _, fm1, R, e1, fun F1 H1 A1 => ⟨F1, fm1, _, fm2, A1.rel, e2, fun F2 H2 A2 => ?_⟩⟩
                  have A := A1.trans A2
                  obtain ⟨p', vs, e, hs', hp, r⟩ := A.rel.ownL h1 hy
                  cases e
                  have rb' := dpAll_mono A.ext.same rb
                  have fp : F2 p = none := by
                    obtain ⟨p'', h3, h4, _⟩ := A.rel.own i _ h1
                    rw [hy] at h3; cases h3; exact h4
                  refine ⟨p, b, vs, ys, a, c, rfl, rfl, hp, A.rel.sub.seq (A.ext.same.seq sb), ?_, rfl, rfl, hk.1, hk.2.1, by rw [dpAll_len r, dpAll_len rb]; exact hk.2.2, ?_⟩
                  · rcases sb with (sb | ⟨o, sb⟩) | ⟨o, its, n, hkk, _⟩
                    · exact .inl fun z => by subst z; rw [hf] at sb; cases sb
                    · exact .inl fun z => by subst z; rw [hf] at sb; cases sb
                    · exact .inr (by rw [hkk]; exact fun z => nomatch z)
                  · exact q σ F2 _ (A.trans (Aft.write A.rel h1 hs' (dpAll_app (dpAll_app (dpAll_take _ r) rb') (dpAll_drop _ r)))).s
                · cases em
              · cases em
            · cases em
          · cases em
        · cases em
    · cases em
end
end Rf

/-! Ri3: sorted(set(t)), t * n, tuple(range(a, b)). -/
namespace Rf
open PySem PySem.Spec PyProof.Rows L2

/-! ### the members, ascending -/
def insU (x : Int) : List Int → List Int
  | [] => [x]
  | y :: ys => if x < y then x :: y :: ys else if x = y then y :: ys else y :: insU x ys
def sortU (ns : List Int) : List Int := ns.foldr insU []
theorem insU_mem {x z : Int} : ∀ {l : List Int}, z ∈ insU x l ↔ z = x ∨ z ∈ l
  | [] => by simp [insU]
  | y :: ys => by
    unfold insU
    split
    · simp
    · split
      · rename_i e; subst e; simp
      · rw [List.mem_cons, List.mem_cons, insU_mem]
        constructor
        · rintro (h | h | h)
          · exact .inr (.inl h)
          · exact .inl h
          · exact .inr (.inr h)
        · rintro (h | h | h)
          · exact .inr (.inl h)
          · exact .inl h
          · exact .inr (.inr h)
theorem insU_pair {x : Int} : ∀ {l : List Int}, l.Pairwise (· < ·) → (insU x l).Pairwise (· < ·)
  | [], _ => by simp [insU]
  | y :: ys, h => by
    obtain ⟨h1, h2⟩ := List.pairwise_cons.mp h
    unfold insU
    split
    · rename_i e
      refine List.pairwise_cons.mpr ⟨fun z hz => ?_, h⟩
      rcases List.mem_cons.mp hz with rfl | hz
      · exact e
      · have := h1 z hz; omega
    · split
      · exact h
      · refine List.pairwise_cons.mpr ⟨fun z hz => ?_, insU_pair h2⟩
        rcases insU_mem.mp hz with rfl | hz
        · omega
        · exact h1 z hz
theorem sortU_mem {z : Int} : ∀ {ns : List Int}, z ∈ sortU ns ↔ z ∈ ns
  | [] => by simp [sortU]
  | n :: ns => by
    show z ∈ insU n (sortU ns) ↔ _
    rw [insU_mem, sortU_mem, List.mem_cons]
theorem sortU_pair : ∀ (ns : List Int), (sortU ns).Pairwise (· < ·)
  | [] => .nil
  | n :: ns => insU_pair (sortU_pair ns)
theorem pair_uniq : ∀ {l m : List Int}, l.Pairwise (· < ·) → m.Pairwise (· < ·) → (∀ z, z ∈ l ↔ z ∈ m) → l = m
  | [], [], _, _, _ => rfl
  | [], y :: m, _, _, h => by have := (h y).mpr (by simp); simp at this
  | x :: l, [], _, _, h => by have := (h x).mp (by simp); simp at this
  | x :: l, y :: m, hl, hm, h => by
    obtain ⟨a1, a2⟩ := List.pairwise_cons.mp hl
    obtain ⟨b1, b2⟩ := List.pairwise_cons.mp hm
    have e : x = y := by
      have hx := (h x).mp (by simp)
      have hy := (h y).mpr (by simp)
      rcases List.mem_cons.mp hx with e | hx
      · exact e
      · rcases List.mem_cons.mp hy with e | hy
        · exact e.symm
        · have := a1 y hy; have := b1 x hx; omega
    subst e
    congr 1
    refine pair_uniq a2 b2 fun z => ⟨fun hz => ?_, fun hz => ?_⟩
    · have ne := a1 z hz
      rcases List.mem_cons.mp ((h z).mp (by simp [hz])) with e | hz'
      · omega
      · exact hz'
    · have ne := b1 z hz
      rcases List.mem_cons.mp ((h z).mpr (by simp [hz])) with e | hz'
      · omega
      · exact hz'
section
variable {X : Cx} {K : PySem.W.Frag}
def rSetT (K : PySem.W.Frag) (w : World) : List V → Hp → VK → Prop := fun vs H Q => ∃ (p : Addr) (ns : List Int), vs = [.ref p] ∧ SqT K H p (ns.map V.int) ∧ ns.length < 64 ∧ ∀ (a : Addr) (c : Nat), H a = none → c ≤ ns.length → Q (.ref a) (upd H a (SetO w a (fun j => decide (j ∈ ns)) c))
theorem cr_setT (hc : X.calm = true) : CallR X (.type "set") (rSetT X.K X.w) := by
  intro pins s σ H vs us Q I r h
  obtain ⟨p, ns, rfl, hq, hl, q⟩ := h
  rw [Vals.ref1 r]
  obtain ⟨its, rv, pt, hz⟩ := I.tuple hq
  have hi : IntsAre its.toArray.toList ns := by simpa using rv.ints
  refine call_set_tupI ns (I.ok.hd hc) (show s.heap.IsTuple p its.toArray from pt) hi (by unfold scanBound; omega) fun h' tk c R hcn k => ?_
  exact ⟨.ref s.heap.objs.size, _, I.laid (t' := tk) k (Nat.le_refl _) (setO_new R), rfl, q _ c (I.hok.fresh (Nat.le_refl _)) hcn⟩
def mSortSet (m : ME) : ME := fun fm => match m fm with
  | some (v, fm1) => match peek v fm1 with
    | some (.tuple ds) => match intsD ds with
      | some ns => if ns.length < 64 then some (.fre (.lst ((sortU ns).map .int)), fm1) else none
      | none => none
    | _ => none
  | none => none
theorem se_sortSet {e : Expr} {m : ME} {p pos p1 pos1 : Pos} (hc : X.calm = true) (hg : Gl X "sorted") (hm : X.mg "sorted" = none) (hg1 : Gl X "set") (hm1 : X.mg "set" = none) (he : SE X e m) (hs : isStar e = false) :
    SE X (.Call (.Name "sorted" p) [.Call (.Name "set" p1) [e] [] pos1] [] pos) (mSortSet m) := by
  have s1 : starEach [e] X.env = (false, eval e X.env) :: starEach [] X.env := star_cons hs
  refine pe_le (pe_callB (cr_sortedSet hc) hg hm boot_sorted (pa_cons (pe_callTy (cr_setT hc) hg1 hm1 PyProof.Rows.boot_set (pa_cons he pa_nil s1) (by decide) (by decide) s1) pa_nil)) fun σ H Q h => ?_
  obtain ⟨F, fm, v, fm', R, em, q⟩ := h
  unfold mSortSet at em
  split at em
  · rename_i w fm1 e1
    split at em
    · rename_i ds hd
      split at em
      · rename_i ns hn
        split at em
        · rename_i h64
          cases em
          refine ⟨F, fm, w, _, R, e1, fun x F1 H1 A1 V1 N1 => ?_⟩
          obtain ⟨a, ys, rfl, s1, r1⟩ := peek_tup A1.rel V1 hd
          have e := intsD_eq hn
          subst e
          have e := dq_ints r1
          subst e
          refine ⟨a, ns, rfl, s1.1, h64, fun b c hb hcn => ⟨b, _, c, rfl, upd_same, by omega, fun ms p' hp hmem _ hfree => ?_⟩⟩
          have A2 := A1.trans (Aft.lay (o := SetO X.w b (fun j => decide (j ∈ ns)) c) A1.rel hb)
          have e : ms = sortU ns := pair_uniq hp (sortU_pair ns) fun z => by rw [hmem, sortU_mem]; simp
          subst e
          exact q _ F1 _ (A2.trans (Aft.lay A2.rel hfree)) (Aft.newL A2.rel hfree (ints_dq _)) (A2.new (VNew.ref hfree))
        · cases em
      · cases em
    · cases em
  · cases em
/-! ### t * n -/
def rRepP (K : PySem.W.Frag) : R2 := fun x y H Q => ∃ l k xs, x = .ref l ∧ y = .int k ∧ SqT K H l xs ∧ xs ≠ [] ∧ 2 ≤ k ∧ k ≤ 1000 ∧ xs.length ≤ 1000 ∧ rNewP (List.replicate k.toNat xs).flatten H Q
theorem op_repP : OpR X (binaryOp .Mult) (rRepP X.K) := by
  intro pins s σ H x y v u Q I rx ry h
  obtain ⟨l, k, xs, rfl, rfl, hT, ne, k2, k3, small, q⟩ := h
  cases rx
  obtain ⟨t, rfl⟩ := ry
  obtain ⟨its, r, ⟨⟨cls, dd, data, sl⟩, ho, hc, n, hd⟩, _⟩ := I.tuple hT
  simp only at hc hd
  subst hc hd
  have el : its.length = xs.length := r.length.symm
  have nonempty : its.toArray.isEmpty = false := by
    cases its with
    | nil => exact absurd (List.eq_nil_of_length_eq_zero (by simpa using el.symm)) ne
    | cons _ _ => rfl
  have size : its.toArray.size = xs.length := by rw [List.size_toArray, el]
  have flen : (List.replicate k.toNat its).flatten.length ≤ sizeLine := by
    rw [PyProof.Rows.lm_len_rep_flat, el, sizeLine_eq]
    have := Nat.mul_le_mul (show k.toNat ≤ 1000 by omega) small
    omega
  have flenV : (List.replicate k.toNat xs).flatten.length ≤ sizeLine := by
    rw [PyProof.Rows.lm_len_rep_flat, sizeLine_eq]
    have := Nat.mul_le_mul (show k.toNat ≤ 1000 by omega) small
    omega
  have bound : ((its.toArray.size : Nat) : Int) * k ≤ 1000000 := by
    rw [size]
    have := Int.mul_le_mul_of_nonneg_right (show ((xs.length : Nat) : Int) ≤ 1000 by omega) (show 0 ≤ k by omega)
    omega
  have c0 : (decide (k < -(2 ^ 63)) || decide (k ≥ 2 ^ 63)) = false := by rw [decide_eq_false (by omega), decide_eq_false (by omega)] <;> rfl
  have c1 : (its.toArray.isEmpty || k == 1) = false := by rw [nonempty, Bool.false_or]; exact beq_eq_false_iff_ne.mpr (by omega)
  have c2 : (decide (k ≤ 0) || its.toArray.isEmpty) = false := by rw [nonempty, Bool.or_false]; exact decide_eq_false (by omega)
  have c4 : Builtin.Tuple.tupleTooMany (((its.toArray.size : Nat) : Int) * k) = false := by unfold Builtin.Tuple.tupleTooMany; rw [sizeLine_eq]; exact decide_eq_false (by omega)
  have meets := tuple_mulW l its.toArray n dd sl k t c0 c1 c2 (by omega) c4 (by rw [size_rep, List.size_toArray]; exact flen)
  refine wpAny_binaryOp_repeat_ref (T := "tuple") (U := "int") (by decide) ⟨_, ho, rfl⟩ (fun s' => typeIs_int s' k t) noFill_tuple_mul F.fills_int_mul F.slot_int_rmul repeat_tuple F.slot_int_index.lookup (call_meets F.slot_int_rmul (typeIs_int s k t) F.entry_int_rmul (F.args_int_rmul_2 _ _) (int_rmul_tuple k t l its.toArray n dd sl) ⟨ho, rfl, ⟨_, ho, rfl⟩, call_meets F.slot_tuple_mul ⟨_, ho, rfl⟩ F.entry_tuple_mul (F.args_tuple_mul_2 _ _) meets ⟨ho, ?_⟩⟩)
  rw [size_rep]
  exact ⟨.ref s.heap.objs.size, _, inv_newP (t' := s.toks) I (r.rep k.toNat) flenV rfl, rfl, q _ _ (I.hok.fresh (Nat.le_refl _)) rfl⟩
def fMulY : F2 := fun va vb fm => match peek va fm, peek vb fm with
  | some (.tuple ds), some (.int k) => if ds ≠ [] ∧ 2 ≤ k ∧ k ≤ 1000 ∧ ds.length ≤ 1000 then some (.dat (.tuple (repD k ds)), fm) else none
  | _, _ => fMulX va vb fm
theorem p_mulY : Prim2 K (fun x y H Q => rRepP K x y H Q ∨ rMulX K x y H Q) fMulY := by
  intro F H σ fm fm' va vb x y v R Va Vb h Q q
  unfold fMulY at h
  split at h
  · rename_i ds k h1 h2
    split at h
    · rename_i hc
      cases h
      obtain ⟨a, ys, rfl, s1, r1⟩ := peek_tup R Va h1
      refine .inl ⟨a, k, ys, rfl, peek_int R Vb h2, s1.1, fun e => hc.1 ?_, hc.2.1, hc.2.2.1, by rw [dpAll_len r1]; exact hc.2.2.2, fun p o hp hd => ?_⟩
      · subst e; cases r1; rfl
      · exact q _ _ _ (Aft.layF R hp) (Aft.newT R hp hd (dpAll_rep r1 _)) VNew.dat
    · cases h
  · exact .inr (p_mulX F H σ fm fm' va vb x y v R Va Vb h Q q)
end
end Rf

/-! Ri4: tuple(range(a, b)). -/
namespace Rf
open PySem PySem.Spec PyProof.Rows L2

section
variable {X : Cx} {K : PySem.W.Frag}
theorem paired_of {α β : Type} {F : α → β → Prop} : ∀ {l : List α} {m : List β}, l.length = m.length → (∀ (i : Nat) (a : α) (b : β), l[i]? = some a → m[i]? = some b → F a b) → Paired F l m
  | [], [], _, _ => .nil
  | a :: l, b :: m, hl, h => .cons (h 0 a b rfl rfl) (paired_of (by simpa using hl) fun i x y e1 e2 => h (i + 1) x y (by simpa using e1) (by simpa using e2))
  | [], _ :: _, hl, _ => by simp at hl
  | _ :: _, [], hl, _ => by simp at hl
def intsV (lo : Int) (n : Nat) : List V := (List.range n).map fun k => V.int (lo + (k : Nat))
def rTupR : List V → Hp → VK → Prop := fun vs H Q => ∃ (p : Addr) (lo hi : Int), vs = [.ref p] ∧ H p = some (.rng lo hi) ∧ 0 ≤ lo ∧ lo ≤ hi ∧ hi < 100000 ∧ rNewP (intsV lo (hi - lo).toNat) H Q
theorem cr_tupR (hc : X.calm = true) : CallR X (.type "tuple") rTupR := by
  intro pins s σ H vs us Q I r h
  obtain ⟨p, lo, hi, rfl, hp, h0, h1, h2, q⟩ := h
  rw [Vals.ref1 r]
  obtain ⟨t, u, v, hr⟩ := I.hok p _ hp
  have size : Builtin.Range.rangeSize lo hi 1 = hi - lo := by
    unfold Builtin.Range.rangeSize
    rw [if_pos (by decide)]
    split
    · rw [Int.ediv_one]; omega
    · omega
  have fits : ∀ x : Int, 0 ≤ x → x < 200000 → Builtin.Range.rangeFitsLong x = true := fun x g1 g2 => by
    unfold Builtin.Range.rangeFitsLong
    simp
    omega
  have small : Builtin.Range.small lo hi 1 = true := by
    unfold Builtin.Range.small
    rw [size, fits lo h0 (by omega), fits hi (by omega) (by omega), fits 1 (by omega) (by omega), fits (hi - lo) (by omega) (by omega), if_pos (by decide), fits (hi + (1 - 1)) (by omega) (by omega)]
    simp
  have len : Builtin.Range.rangeSize lo hi 1 = ((hi - lo).toNat : Nat) := by rw [size]; omega
  refine call_tuple_range (I.ok.hd hc) hr small len (by omega) fun h' tk acc hk hacc => ?_
  have J : Inv X pins σ H { s with heap := h', toks := tk } := I.kept (t' := tk) hk
  obtain ⟨e1, e2⟩ := hacc
  have rv : Vals (intsV lo (hi - lo).toNat) acc.toList := by
    refine paired_of (by simp [intsV]; omega) fun i a b ha hb => ?_
    have hlt : i < (hi - lo).toNat := by
      have := (List.getElem?_eq_some_iff.mp ha).1
      simpa [intsV] using this
    have ea : a = V.int (lo + (i : Nat)) := by
      have : (intsV lo (hi - lo).toNat)[i]? = some (V.int (lo + (i : Nat))) := by simp [intsV, hlt]
      rw [this] at ha
      exact (Option.some.inj ha).symm
    subst ea
    obtain ⟨t', e⟩ := e2 i b (by rw [← Array.getElem?_toList]; exact hb)
    rw [Int.mul_one] at e
    exact ⟨t', e⟩
  exact ⟨.ref h'.objs.size, _, inv_newP (t' := tk) J rv (by simp [intsV, sizeLine_eq]; omega) (by simp), rfl, q _ _ (J.hok.fresh (Nat.le_refl _)) rfl⟩
def mTupRan (ma : MA) : ME := fun fm => match ma fm with
  | some ([.dat (.int a), .dat (.int b)], fm1) => if 0 ≤ a ∧ a ≤ b ∧ b < 100000 then some (.dat (.tuple (intsFrom a (b - a).toNat)), fm1) else none
  | _ => none
theorem intsV_dq {F : Hp} {lo : Int} {n : Nat} : DqAll K F (intsV lo n) (intsFrom lo n) := by
  unfold intsV intsFrom
  generalize List.range n = l
  induction l with
  | nil => exact .nil
  | cons i l ih => exact .cons (.int _) ih
theorem se_tupRan {a b : Expr} {m : MA} {p pos p1 pos1 : Pos} (hc : X.calm = true) (hg : Gl X "tuple") (hm : X.mg "tuple" = none) (hg1 : Gl X "range") (hm1 : X.mg "range" = none) (he : SA X [a, b] m) (hs : isStar a = false) (hs2 : isStar b = false) :
    SE X (.Call (.Name "tuple" p) [.Call (.Name "range" p1) [a, b] [] pos1] [] pos) (mTupRan m) := by
  refine pe_le (pe_callTy (cr_tupR hc) hg hm PyProof.Rows.boot_tuple (pa_cons (pe_callTy cr_range2 hg1 hm1 boot_range he (by decide) (by decide) (star_cons hs) (back_plain (by simp [noStars, hs2]))) pa_nil)) fun σ H Q h => ?_
  obtain ⟨F, fm, v, fm', R, em, q⟩ := h
  unfold mTupRan at em
  split at em
  · rename_i i j fm1 e1
    split at em
    · rename_i hk
      cases em
      refine ⟨F, fm, _, _, R, e1, fun xs F1 H1 A V N => ?_⟩
      obtain ⟨x, y, rfl, V1, V2⟩ := vsrel2 V
      have e := dpint V1
      subst e
      have e := dpint V2
      subst e
      refine ⟨i, j, rfl, fun r hr => ⟨r, i, j, rfl, upd_same, hk.1, hk.2.1, hk.2.2, fun t o ht hd => ?_⟩⟩
      have A2 := A.trans (Aft.lay (o := HO.rng i j) A.rel hr)
      exact q _ _ _ (A2.trans (Aft.layF A2.rel ht)) (Aft.newT A2.rel ht hd intsV_dq) VNew.dat
    · cases em
  · cases em
end
end Rf

/-! Rg3: the reading of syntax: meanings of expressions and statements, computed from the text. -/
namespace Rf
open PySem PySem.Spec PyProof.Rows L2

/-- what is known of a def that may be called -/
structure DI where
  ps : List Str
  D : Dm
  /-- by keywords: which of them each parameter gets -/
  kw : List Str → Option (List Nat)
/-- where a text stands -/
structure Cc where
  N : List Str
  sc : Scope
  ro : List Nat
  fn : Str → Bool
  df : Str → Option DI
  bl : Str → Bool
def visK : Option NameKind → Bool
  | some .local => true
  | some .cell => true
  | some .free => true
  | _ => false
def plainN (x : Str) : Bool := !(x == ("__debug__" : Str)) && !(x == ("__classdict__" : Str)) && !(x == ("__name__" : Str))
def Cc.slot (c : Cc) (x : Str) : Option Nat := if visK (c.sc.names.lookup x) && plainN x then c.N.findIdx? (· == x) else none
def Cc.sto (c : Cc) (x : Str) : Option Nat := match c.sc.names.lookup x with
  | some .local => match c.N.findIdx? (· == x) with
    | some i => if i ∈ c.ro then none else some i
    | none => none
  | some .cell => if c.fn x then (match c.N.findIdx? (· == x) with
    | some i => if i ∈ c.ro then none else some i
    | none => none) else none
  | _ => none
def Cc.loc (c : Cc) (x : Str) : Option Nat := match c.sc.names.lookup x with
  | some .local => match c.N.findIdx? (· == x) with
    | some i => if i ∈ c.ro then none else some i
    | none => none
  | _ => none
def Cc.glo (c : Cc) (x : Str) : Bool := (match c.sc.names.lookup x with
  | some .globalImplicit => true
  | _ => false) && plainN x
def Cc.blt (c : Cc) (x : Str) : Bool := c.glo x && c.bl x

def mNo : ME := fun _ => none
def mNoT : MT := fun _ => none
def mNoS : MS := fun _ => none
def mNoA : MA := fun _ => none

/-! ### operators -/
def fIsX : F2 := fun va vb fm => match peek vb fm with
  | some .none => fIsN va vb fm
  | some (.bool _) => fIsB va vb fm
  | _ => none
def opF : Operator → Option F2
  | .Add => some fAddX
  | .Sub => some fSubX
  | .Mult => some fMulY
  | .Mod => some fMod
  | .FloorDiv => some fDiv
  | .Pow => some fPow
  | _ => none
def cmpF : CmpOp → Option F2
  | .Eq => some fEqX
  | .NotEq => some fNeX
  | .Lt => some fLt
  | .LtE => some fLe
  | .Gt => some fGt
  | .GtE => some fGe
  | .Is => some fIsX
  | .IsNot => some fNotN
  | .In => some fInX
  | .NotIn => some fNotInX
/-! ### levels -/
structure Lv where
  E : Cc → Expr → ME
  T : Cc → Expr → MT
  B : Cc → List Stmt → MS
def lv0 : Lv := ⟨fun _ _ => mNo, fun _ _ => mNoT, fun _ _ => mNoS⟩
section
variable (l : Lv)
def cA (c : Cc) : List Expr → MA
  | [] => mNil
  | e :: es => if isStar e then mNoA else mCons (l.E c e) (cA c es)
def cO (c : Cc) : Option Expr → MO
  | none => oNone
  | some e => oSome (l.E c e)
/-- a target that takes data -/
def cG1 (c : Cc) : Expr → Option MG
  | .Name x _ => (c.sto x).map gSet
  | .Subscript (.Name x _) (.Slice lo hi none _) _ => (c.slot x).map fun i => gSplice i (cO l c lo) (cO l c hi)
  | .Subscript (.Name x _) e _ => if isSlice e then none else (c.slot x).map fun i => gIx i (l.E c e)
  | _ => none
def cGs (c : Cc) : List Expr → Option MGs
  | [] => some gsNil
  | e :: es => if isStar e then none else match cG1 l c e, cGs c es with
    | some g, some r => some (gsCons g r)
    | _, _ => none
def cG (c : Cc) : Expr → Option MG
  | .Tuple es _ _ => (cGs l c es).map (gTupD es.length)
  | e => cG1 l c e
/-- walks that give tuples; others -/
def cIw (c : Cc) : Expr → Option MI
  | .Call (.Name x _) args [] _ =>
    if x = "enumerate" ∧ c.blt x = true then (match args with
      | [e] => if isStar e then none else some (iEnm (cA l c [e]))
      | _ => none)
    else if x = "zip" ∧ c.blt x = true then (match args with
      | [a, b] => if isStar a || isStar b then none else some (iZp (cA l c [a, b]))
      | _ => none)
    else none
  | _ => none
def cI (c : Cc) : Expr → MI
  | .Call (.Name x p) args [] p2 =>
    if x = "range" ∧ c.blt x = true then (match args with
      | [a] => if isStar a then (fun _ => none) else iRan (cA l c [a])
      | [a, b] => if isStar a || isStar b then (fun _ => none) else iRan2 (cA l c [a, b])
      | _ => fun _ => none)
    else iSeq (l.E c (.Call (.Name x p) args [] p2))
  | e => iSeq (l.E c e)
/-- of a comprehension: its own names and their slots -/
def ownOf (N : List Str) (scope : Scope) : List (Str × Nat) := scope.names.filterMap fun y => match y.2 with
  | .local => (N.findIdx? (· == y.1)).map fun i => (y.1, i)
  | .cell => (N.findIdx? (· == y.1)).map fun i => (y.1, i)
  | _ => none
def relS (scope sc : Scope) : Scope := { scope with names := scope.names.map fun (n, k) => if k == .free && sc.kind == .function && sc.names.lookup n == some .cell then (n, .cell) else (n, k) }
def Cc.comp (c : Cc) (scope : Scope) : Cc := { c with
  sc := relS scope c.sc, ro := (List.range c.N.length).filter fun i => !((ownOf c.N scope).map (·.2)).contains i, fn := fun x => scope.names.lookup x == some .cell }
def namesOnly : Expr → Bool
  | .Name _ _ => true
  | .Tuple es _ _ => es.all fun e => match e with
    | .Name _ _ => true
    | _ => false
  | _ => false
def isTup : Expr → Bool
  | .Tuple _ _ _ => true
  | _ => false
def cT1 (c : Cc) : List Expr → MT
  | [] => fun fm => some (true, fm)
  | [e] => l.T c e
  | _ => mNoT
def cL (c : Cc) (elt : Expr) (scope : Scope) : List Comprehension → ME
  | [⟨tg, iter, ifs, is⟩] => if is = 0 ∧ blkC c.N c.sc scope (ownOf c.N scope) = true ∧ isSetD iter = false ∧ namesOnly tg = true then (match cG l (c.comp scope) tg with
      | some g => match cIw l c iter with
        | some mi => if isTup tg then mLc c.N.length mi g (cT1 l (c.comp scope) ifs) (l.E (c.comp scope) elt) ((ownOf c.N scope).map (·.2)) else mNo
        | none => mLc c.N.length (cI l c iter) g (cT1 l (c.comp scope) ifs) (l.E (c.comp scope) elt) ((ownOf c.N scope).map (·.2))
      | none => mNo) else mNo
  | _ => mNo

/-! calls of built-ins -/
def bltTab : List (Str × Nat × FA) := [("len", 1, fLen), ("abs", 1, fAbs), ("int", 1, fInt), ("min", 1, fBest min), ("min", 2, fMin2), ("max", 1, fBest max), ("max", 2, fMax2), ("list", 1, fList), ("tuple", 1, fTuple),
  ("str", 1, fStr), ("all", 1, fAll), ("any", 1, fAny), ("sum", 1, fSum), ("sorted", 1, fSorted), ("repr", 1, fRepr)]
def bltF (x : Str) (n : Nat) : Option FA := (bltTab.find? fun t => decide (t.1 = x) && decide (t.2.1 = n)).map (·.2.2)
def tyTab : List (Str × String) := [("int", "int"), ("bool", "bool"), ("str", "str"), ("list", "list"), ("tuple", "tuple")]
def tyOf (x : Str) : Option String := (tyTab.find? fun t => decide (t.1 = x)).map (·.2)
def tyNamesC (c : Cc) : List Expr → Option (List String)
  | [] => some []
  | .Name x _ :: es => if c.blt x then (match tyOf x, tyNamesC c es with
      | some T, some Ts => some (T :: Ts)
      | _, _ => none) else none
  | _ => none
def cIsi (c : Cc) : List Expr → ME
  | [e, .Name x _] => if isStar e then mNo else if c.blt x then (match tyOf x with
      | some T => mIsi [T] (l.E c e)
      | none => mNo) else mNo
  | [e, .Tuple es _ _] => if isStar e then mNo else if es.length ≤ 8 then (match tyNamesC c es with
      | some Ts => mIsi Ts (l.E c e)
      | none => mNo) else mNo
  | _ => mNo
def kwNames : List Keyword → Option (List Str)
  | [] => some []
  | ⟨some x, _, _⟩ :: ks => (kwNames ks).map (x :: ·)
  | _ => none
def cK (c : Cc) : List Keyword → MA
  | [] => mNil
  | ⟨_, e, _⟩ :: ks => mCons (l.E c e) (cK c ks)
def cDef (c : Cc) (d : DI) (args : List Expr) (kws : List Keyword) : ME := match kws with
  | [] => if noStars args then mCall d.D (cA l c args) else mNo
  | kws => match args, kwNames kws with
    | [], some ks => match d.kw ks with
      | some pm => mCall d.D (mPermA pm ks.length (cK l c kws))
      | none => mNo
    | _, _ => mNo
/-- sorted(set(e)), tuple(range(a, b)) -/
def cSpec (c : Cc) (x : Str) : List Expr → Option ME
  | [.Call (.Name y _) es [] _] =>
    if x = "sorted" ∧ y = "set" ∧ c.blt y = true then (match es with
      | [e] => if isStar e then none else some (mSortSet (l.E c e))
      | _ => none)
    else if x = "tuple" ∧ y = "range" ∧ c.blt y = true then (match es with
      | [a, b] => if isStar a || isStar b then none else some (mTupRan (cA l c [a, b]))
      | _ => none)
    else none
  | _ => none
def cFun (c : Cc) (x : Str) (args : List Expr) (kws : List Keyword) : ME :=
  if c.glo x then (if c.bl x then (match kws with
      | [] => if x = "isinstance" then cIsi l c args else match cSpec l c x args with
        | some m => m
        | none => if noStars args && !args.isEmpty then (match bltF x args.length with
        | some f => mB1 f (cA l c args)
        | none => mNo) else mNo
      | _ => mNo)
    else match c.df x with
      | some d => cDef l c d args kws
      | none => mNo) else mNo
/-! methods -/
def cMet (c : Cc) (o : Expr) (m : Str) (args : List Expr) : ME :=
  if isCall0 o || !noStars args || decide (20 < args.length) then mNo
  else if m = "append" then (match args with
    | [_] => mMtZ "list" fAppend (l.E c o) (cA l c args)
    | _ => mNo)
  else if m = "extend" then (match args with
    | [_] => mMt "list" fExtend (l.E c o) (cA l c args)
    | _ => mNo)
  else if m = "pop" then (match args with
    | [_] => mMt "list" fPopAt (l.E c o) (cA l c args)
    | _ => mNo)
  else if m = "insert" then (match args with
    | [_, _] => mMtZ "list" fInsert (l.E c o) (cA l c args)
    | _ => mNo)
  else if m = "index" then (match args with
    | [_] => fun fm => match mMt "tuple" (fIdx true) (l.E c o) (cA l c args) fm with
      | some r => some r
      | none => mMt "list" (fIdx false) (l.E c o) (cA l c args) fm
    | _ => mNo)
  else mNo
/-! ### expressions -/
def isBack : Option Expr → Option Expr → Expr → Bool
  | none, none, .UnaryOp .USub (.Constant (.int 1) _ _) _ => true
  | _, _, _ => false
def cBool (c : Cc) (op : BoolOp) : List Expr → ME
  | [] => mNo
  | [e] => l.E c e
  | e :: es => match op with
    | .And => mAndV (l.E c e) (cBool c op es)
    | .Or => mOrV (l.E c e) (cBool c op es)
def cBoolT (c : Cc) (op : BoolOp) : List Expr → MT
  | [] => mNoT
  | [e] => l.T c e
  | e :: es => match op with
    | .And => mAndT (l.T c e) (cBoolT c op es)
    | .Or => mOrT (l.T c e) (cBoolT c op es)
def cCmp (c : Cc) (a : Expr) : List CmpOp → List Expr → ME
  | [op], [b] => if isSetD b then mNo else (match cmpF op with
    | some f => m2 f (l.E c a) (l.E c b)
    | none => mNo)
  | [op, op'], [b, d] => if isSetD b || isSetD d then mNo else (match cmpF op, cmpF op' with
    | some f, some f' => mChain f f' (l.E c a) (l.E c b) (l.E c d)
    | _, _ => mNo)
  | _, _ => mNo
def cE (c : Cc) : Expr → ME
  | .Name x _ => match c.slot x with
    | some i => mVar i
    | none => mNo
  | .Constant k _ _ => match k with
    | .int i => mLit (.int i)
    | .bool b => mLit (.bool b)
    | .str s => mLit (.str s)
    | .none => mLit .none
    | _ => mNo
  | .BinOp a op b _ => match opF op with
    | some f => m2 f (l.E c a) (l.E c b)
    | none => mNo
  | .UnaryOp op a _ => match op with
    | .Not => mNotV (l.E c a)
    | .USub => m1 fNeg (l.E c a)
    | _ => mNo
  | .BoolOp op es _ => cBool l c op es
  | .Compare a ops bs _ => cCmp l c a ops bs
  | .IfExp t a b _ => mIfE (l.T c t) (l.E c a) (l.E c b)
  | .List es _ => mLst (cA l c es)
  | .Tuple es _ _ => mTup (cA l c es)
  | .Subscript e s _ => match s with
    | .Slice lo hi none _ => mSl (l.E c e) (cO l c lo) (cO l c hi)
    | .Slice lo hi (some st) _ => if isBack lo hi st then m1 fBack (l.E c e) else mNo
    | s => m2 fIx (l.E c e) (l.E c s)
  | .ListComp elt gs scope _ => cL l c elt scope gs
  | .Call f args kws p => match f with
    | .Name x _ => cFun l c x args kws
    | .Attribute o m ap => if kws.isEmpty && (ap.endLine == p.line) then cMet l c o m args else mNo
    | _ => mNo
  | _ => mNo
def cT (c : Cc) : Expr → MT
  | .UnaryOp .Not a _ => mNotT (l.T c a)
  | .BoolOp op es _ => cBoolT l c op es
  | .Compare a ops bs _ => mB (cCmp l c a ops bs)
  | .IfExp _ _ _ _ => mNoT
  | e => mB (l.E c e)
/-! ### statements -/
def nmLoc (c : Cc) (line : Nat) : Expr → Option Str
  | .Name id pos => if c.sc.names.lookup id == some .local && pos.line == line then some id else none
  | _ => none
/-- the values of a tuple go straight to names: CPython stores them the other way round -/
def swapNs (c : Cc) (ts vs : List Expr) : Option (Option (List Str)) :=
  if (!(ts.length == 2 || ts.length == 3) || vs.length != ts.length) = true then some none
  else if vs.any isStar = true then some none
  else if ((ts.filterMap (nmLoc c ((ts.head?.map (·.pos.line)).getD 0))).length != ts.length || (ts.filterMap (nmLoc c ((ts.head?.map (·.pos.line)).getD 0))).eraseDups.length != (ts.filterMap (nmLoc c ((ts.head?.map (·.pos.line)).getD 0))).length) = true then some none
  else if vs.all (foldedForSure 8) = true then some none
  else if vs.all (constantsAlone 8) = true then none
  else some (some (ts.filterMap (nmLoc c ((ts.head?.map (·.pos.line)).getD 0))))
def isSD : Expr → Bool
  | .SetComp _ _ _ _ => true
  | .DictComp _ _ _ _ _ => true
  | _ => false
/-- the value of a name's assignment -/
def cV (c : Cc) : Expr → ME
  | .ListComp elt gs scope _ => cL l c elt scope gs
  | e => if isSD e then mNo else l.E c e
def cPar (c : Cc) (ts vs : List Expr) : MS := match ts, vs with
  | [.Name x p, .Name y q], [a, b] => if swapNs c [.Name x p, .Name y q] [a, b] = some (some [x, y]) then (match c.loc x, c.loc y with
      | some i, some j => if i ≠ j then mPar [i, j] (cA l c [a, b]) else mNoS
      | _, _ => mNoS) else mNoS
  | [.Name x p, .Name y q, .Name z r], [a, b, d] => if swapNs c [.Name x p, .Name y q, .Name z r] [a, b, d] = some (some [x, y, z]) then (match c.loc x, c.loc y, c.loc z with
      | some i, some j, some k => if i ≠ j ∧ i ≠ k ∧ j ≠ k then mPar [i, j, k] (cA l c [a, b, d]) else mNoS
      | _, _, _ => mNoS) else mNoS
  | _, _ => mNoS
def isTupE : Expr → Option (List Expr)
  | .Tuple vs _ _ => some vs
  | _ => none
def cTgt (c : Cc) (ts : List Expr) (e : Expr) : MS := match cGs l c ts with
  | some r => mAsg (gTupD ts.length r) (l.E c e)
  | none => mNoS
def cAsg (c : Cc) (e : Expr) : Expr → MS
  | .Name x _ => match c.sto x with
    | some i => mSet i (cV l c e)
    | none => mNoS
  | .Tuple ts _ _ => match isTupE e with
    | some vs => match swapNs c ts vs with
      | some (some _) => cPar l c ts vs
      | some none => cTgt l c ts e
      | none => mNoS
    | none => if isCompr e then mNoS else cTgt l c ts e
  | .Subscript o i p => if isCompr e then mNoS else (match cG1 l c (.Subscript o i p) with
    | some g => mAsg g (l.E c e)
    | none => mNoS)
  | _ => mNoS
def cS (c : Cc) : Stmt → MS
  | .Assign ts e _ => match ts with
    | [tg] => cAsg l c e tg
    | _ => mNoS
  | .Expr e _ => if isCompr e then mNoS else mExpr (l.E c e)
  | .Return e _ => match e with
    | some e => mRet (l.E c e)
    | none => mRetN
  | .Pass _ => mNext
  | .Break _ => mBreak
  | .Continue _ => mCont
  | .If t a b _ => mIf (l.T c t) (l.B c a) (l.B c b)
  | .For tg iter body els _ => match els with
    | [] => if isSetD iter then mNoS else (match cG l c tg with
      | some g => (match cIw l c iter with
        | some mi => if isTup tg then mFor mi g (l.B c body) else mNoS
        | none => mFor (cI l c iter) g (l.B c body))
      | none => mNoS)
    | _ => mNoS
  | .While t body els _ => match els with
    | [] => mWhile 100000 (l.T c t) (l.B c body)
    | _ => mNoS
  | _ => mNoS
def cB (c : Cc) : List Stmt → MS
  | [] => mNext
  | [s] => cS l c s
  | s :: ss => mSeq (cS l c s) (cB c ss)
end
def lvS (l : Lv) : Lv := ⟨cE l, cT l, cB l⟩
def lv : Nat → Lv
  | 0 => lv0
  | n + 1 => lvS (lv n)
end Rf

/-! Rg5: the defs of a program. -/
namespace Rf
open PySem PySem.Spec PyProof.Rows L2

/-- a def of the text -/
structure DR where
  name : Str
  ps : List Str
  /-- its other names, those of its comprehensions among them -/
  more : List Str
  ro : List Nat
  /-- by which keywords it is called -/
  kws : List (List Str)
  st : Stmt
def DR.N (d : DR) : List Str := d.ps ++ d.more
def kwPm (ps ks : List Str) : List Nat := ps.map fun p => ks.findIdx (· == p)
def DR.kw (d : DR) (ks : List Str) : Option (List Nat) := if ks ∈ d.kws then some (kwPm d.ps ks) else none
def findD (x : Str) : List DR → Option DR
  | [] => none
  | d :: ds => if d.name = x then some d else findD x ds
/-- what is called in a def of level n + 1 -/
def cOf (d : DR) (df : Str → Option DI) (bl : Str → Bool) : Cc := ⟨d.N, defScope d.st, d.ro, fun _ => true, df, bl⟩
def dm (lvl : Nat) (d : DR) (df : Str → Option DI) (bl : Str → Bool) : Dm := mkD d.ps.length d.N.length d.ro ((lv lvl).B (cOf d df bl) (defBody d.st))
def envD (lvl : Nat) (ds : List DR) (bl : Str → Bool) : Nat → Str → Option DI
  | 0, _ => none
  | n + 1, x => match findD x ds with
    | some d => some ⟨d.ps, dm lvl d (envD lvl ds bl n) bl, d.kw⟩
    | none => none
end Rf

/-! Rg4: the machine keeps to the reading of the text. -/
namespace Rf
open PySem PySem.Spec PyProof.Rows L2

structure DefOk (X : Cx) (x : Str) (d : DI) : Prop where
  ex : ∃ (k : Nat) (f : Addr) (fd : FuncData), FnG X.prog X.w X.K X.mg X.base k f fd d.ps (spM X.K d.D) ∧ Room k X.A ∧ X.mg x = some (.ref f) ∧ PySem.W.keepIn X.K (.ref f) = true ∧ Binds X.K fd d.ps [] ∧ ∀ ks pm, d.kw ks = some pm → KwB X.K fd d.ps ks pm
structure CtxOk (X : Cx) (c : Cc) : Prop where
  N : X.N = c.N
  sc : X.env.scope = c.sc
  kind : c.sc.kind = .function
  nd : c.N.Nodup
  calm : X.calm = true
  fn : ∀ x, c.fn x = true → X.fn x = true
  gd : X.A.guards = some []
  un : X.A.units + 100 < cLine
  bl : ∀ x, c.bl x = true → X.mg x = none
  df : ∀ x d, c.df x = some d → DefOk X x d
structure LvOk (l : Lv) : Prop where
  E : ∀ X c, CtxOk X c → ∀ e, SE X e (l.E c e)
  T : ∀ X c, CtxOk X c → ∀ e, ST X e (l.T c e)
  B : ∀ X c, CtxOk X c → X.xe = (fun _ _ => False) → ∀ ss, SSs X c.ro ss (l.B c ss)
section
variable {X : Cx} {c : Cc} {e : Expr} {es : List Expr} {ss : List Stmt} {st : Stmt} {ro : List Nat}
theorem se_no : SE X e mNo := ⟨fun _ _ _ _ _ _ ⟨_, _, _, _, _, em, _⟩ => nomatch em⟩
theorem se_no' {m : ME} (h : ∀ fm, m fm = none) : SE X e m := ⟨fun _ _ _ _ _ _ ⟨_, fm, _, _, _, em, _⟩ => by rw [h fm] at em; cases em⟩
theorem st_no : ST X e mNoT := ⟨fun _ _ _ _ _ _ ⟨_, _, _, _, _, em, _⟩ => nomatch em⟩
theorem sa_no : SA X es mNoA := ⟨fun _ _ _ _ _ _ _ ⟨_, _, _, _, _, em, _⟩ => nomatch em⟩
theorem ss_no : SS X ro st mNoS := ⟨fun _ _ _ _ _ _ ⟨_, _, _, _, _, em, _⟩ => nomatch em⟩
theorem sss_no : SSs X ro ss mNoS := ⟨fun _ _ _ _ _ _ ⟨_, _, _, _, _, em, _⟩ => nomatch em⟩
theorem si_no {Rl : RLT} {tg iter : Expr} : SI X Rl tg iter (fun _ => none) := ⟨fun _ _ _ _ _ _ ⟨_, _, _, _, _, em, _⟩ => nomatch em⟩
theorem st_no' : ST X e (mB mNo) := ⟨fun _ _ _ _ _ _ ⟨_, _, _, _, _, em, _⟩ => nomatch em⟩
theorem lv0_ok : LvOk lv0 := ⟨fun _ _ _ _ => se_no, fun _ _ _ _ => st_no, fun _ _ _ _ _ => sss_no⟩

/-! ### names -/
theorem find_at {N : List Str} {x : Str} {i : Nat} (h : N.findIdx? (· == x) = some i) : N[i]? = some x := by
  obtain ⟨hi, h1, _⟩ := List.findIdx?_eq_some_iff_getElem.mp h
  rw [List.getElem?_eq_getElem hi]
  have : N[i] = x := by simpa using h1
  rw [this]
theorem vis_of {sc : Scope} {x : Str} (h : visK (sc.names.lookup x) = true) : Vis sc x := by
  unfold visK at h
  split at h
  · rename_i e; exact .inl e
  · rename_i e; exact .inr (.inl e)
  · rename_i e; exact .inr (.inr e)
  · cases h
theorem plainN_of {x : Str} (h : plainN x = true) : (x == ("__debug__" : Str)) = false ∧ (x == ("__classdict__" : Str)) = false ∧ x ≠ "__name__" := by
  unfold plainN at h
  simp only [Bool.and_eq_true, Bool.not_eq_true'] at h
  exact ⟨h.1.1, h.1.2, fun e => by have := h.2; rw [e] at this; simp at this⟩
theorem slot_ok (C : CtxOk X c) {x : Str} {i : Nat} (h : c.slot x = some i) : X.N[i]? = some x ∧ Vis X.env.scope x ∧ (x == ("__debug__" : Str)) = false ∧ (x == ("__classdict__" : Str)) = false := by
  unfold Cc.slot at h
  split at h
  · rename_i hc
    simp only [Bool.and_eq_true] at hc
    obtain ⟨h1, h2, h3⟩ := plainN_of hc.2
    exact ⟨by rw [C.N]; exact find_at h, by rw [C.sc]; exact vis_of hc.1, h1, h2⟩
  · cases h
theorem sto_ok' (C : CtxOk X c) {x : Str} {i : Nat} (h : c.sto x = some i) : X.N[i]? = some x ∧ Loc X.env.scope x ∧ i ∉ c.ro ∧ (X.fn x = true ∨ X.env.scope.names.lookup x = some .local) := by
  unfold Cc.sto at h
  rw [C.N, C.sc]
  split at h
  · rename_i e
    split at h
    · rename_i j hj
      split at h
      · cases h
      · rename_i hn
        cases h
        exact ⟨find_at hj, .inl e, hn, .inr e⟩
    · cases h
  · rename_i e
    split at h
    · rename_i hf
      split at h
      · rename_i j hj
        split at h
        · cases h
        · rename_i hn
          cases h
          exact ⟨find_at hj, .inr e, hn, .inl (C.fn x hf)⟩
      · cases h
    · cases h
  · cases h
theorem loc_ok (C : CtxOk X c) {x : Str} {i : Nat} (h : c.loc x = some i) : X.N[i]? = some x ∧ X.env.scope.names.lookup x = some .local ∧ i ∉ c.ro := by
  unfold Cc.loc at h
  rw [C.N, C.sc]
  split at h
  · rename_i e
    split at h
    · rename_i j hj
      split at h
      · cases h
      · rename_i hn
        cases h
        exact ⟨find_at hj, e, hn⟩
    · cases h
  · cases h
theorem glo_ok (C : CtxOk X c) {x : Str} (h : c.glo x = true) : Gl X x ∧ (x == ("__debug__" : Str)) = false ∧ x ≠ "__name__" := by
  unfold Cc.glo at h
  simp only [Bool.and_eq_true] at h
  obtain ⟨h1, h2⟩ := h
  obtain ⟨p1, _, p3⟩ := plainN_of h2
  refine ⟨?_, p1, p3⟩
  show X.env.scope.names.lookup x = some .globalImplicit
  rw [C.sc]
  split at h1
  · assumption
  · cases h1
theorem blt_ok (C : CtxOk X c) {x : Str} (h : c.blt x = true) : Gl X x ∧ X.mg x = none ∧ (x == ("__debug__" : Str)) = false ∧ x ≠ "__name__" := by
  unfold Cc.blt at h
  simp only [Bool.and_eq_true] at h
  obtain ⟨g1, g2, g3⟩ := glo_ok C h.1
  exact ⟨g1, C.bl x h.2, g2, g3⟩
/-! ### operators -/
theorem opF_ok : ∀ {op : Operator} {f : F2}, opF op = some f → ∃ r, OpR X (binaryOp op) r ∧ Prim2 X.K r f
  | .Add, _, rfl => ⟨_, op_addX, p_addX⟩
  | .Sub, _, rfl => ⟨_, op_subX, p_subX⟩
  | .Mult, _, rfl => ⟨_, opr_or op_repP op_mulX', p_mulY⟩
  | .Mod, _, rfl => ⟨_, op_mod, p_mod⟩
  | .FloorDiv, _, rfl => ⟨_, op_fdiv, p_div⟩
  | .Pow, _, rfl => ⟨_, op_pow, p_pow⟩
theorem p_isX {K : PySem.W.Frag} : Prim2 K (fun x y H Q => (y = .non ∧ Q (.bl (decide (x = .non))) H) ∨ rIsB x y H Q) fIsX := by
  intro F H σ fm fm' va vb x y v R Va Vb h Q q
  unfold fIsX at h
  split at h
  · exact .inl (p_isN F H σ fm fm' va vb x y v R Va Vb h Q q)
  · exact .inr (p_isB F H σ fm fm' va vb x y v R Va Vb h Q q)
  · cases h
theorem cmpF_ok (C : CtxOk X c) : ∀ {op : CmpOp} {f : F2}, cmpF op = some f → ∃ r, OpR X (compareOp op) r ∧ Prim2 X.K r f
  | .Eq, _, rfl => ⟨_, opr_or op_eq (op_eqD (by have := C.un; omega)), p_eqX⟩
  | .NotEq, _, rfl => ⟨_, opr_or op_ne (op_neD (by have := C.un; omega)), p_neX⟩
  | .Lt, _, rfl => ⟨_, op_lt, p_lt⟩
  | .LtE, _, rfl => ⟨_, op_le, p_le⟩
  | .Gt, _, rfl => ⟨_, op_gt, p_gt⟩
  | .GtE, _, rfl => ⟨_, op_ge, p_ge⟩
  | .Is, _, rfl => ⟨_, opr_or op_isN op_isBl, p_isX⟩
  | .IsNot, _, rfl => ⟨_, op_notN, p_notN⟩
  | .In, _, rfl => ⟨_, op_inX (by have := C.un; omega), p_inX⟩
  | .NotIn, _, rfl => ⟨_, op_notInX (by have := C.un; omega), p_notInX⟩
end
end Rf

/-! Rg6: the machine keeps to the reading of expressions. -/
namespace Rf
open PySem PySem.Spec PyProof.Rows L2

section
variable {l : Lv} {X : Cx} {c : Cc} {e : Expr} {es : List Expr}
theorem cA_ok (L : LvOk l) (C : CtxOk X c) : ∀ es : List Expr, SA X es (cA l c es)
  | [] => sa_nil
  | e :: es => by
    unfold cA
    split
    · exact sa_no
    · rename_i h
      exact sa_cons (L.E X c C e) (cA_ok L C es) (star_cons (by simpa using h))
theorem cO_ok (L : LvOk l) (C : CtxOk X c) : ∀ o : Option Expr, SO X o (cO l c o)
  | none => so_none
  | some e => so_some (L.E X c C e)
/-! ### built-ins -/
def BltOk (X : Cx) (x : Str) (f : FA) : Prop := (∃ id r, bootBuiltins x = some (.builtin id) ∧ CallR X (.builtin id) r ∧ PrimA X.K r f) ∨ (∃ T r, bootBuiltins x = some (.type T) ∧ CallR X (.type T) r ∧ PrimA X.K r f)
theorem bltTab_ok (C : CtxOk X c) : ∀ t ∈ bltTab, BltOk X t.1 t.2.2 := by
  have hu := C.un
  unfold bltTab
  refine List.forall_mem_cons.mpr ⟨.inl ⟨_, _, PySem.boot_len, call_len_seq, p_len⟩, ?_⟩
  refine List.forall_mem_cons.mpr ⟨.inl ⟨_, _, boot_abs, call_abs, p_abs⟩, ?_⟩
  refine List.forall_mem_cons.mpr ⟨.inr ⟨_, _, PyProof.Rows.boot_int, call_int1, p_int⟩, ?_⟩
  refine List.forall_mem_cons.mpr ⟨.inl ⟨_, _, boot_min, call_minX C.calm (by omega), p_best⟩, ?_⟩
  refine List.forall_mem_cons.mpr ⟨.inl ⟨_, _, boot_min, call_min2 C.calm, p_min2⟩, ?_⟩
  refine List.forall_mem_cons.mpr ⟨.inl ⟨_, _, boot_max, call_maxX C.calm (by omega), p_best⟩, ?_⟩
  refine List.forall_mem_cons.mpr ⟨.inl ⟨_, _, boot_max, call_max2 C.calm, p_max2⟩, ?_⟩
  refine List.forall_mem_cons.mpr ⟨.inr ⟨_, _, PyProof.Rows.boot_list, call_list_of, p_list⟩, ?_⟩
  refine List.forall_mem_cons.mpr ⟨.inr ⟨_, _, PyProof.Rows.boot_tuple, call_tupleP, p_tuple⟩, ?_⟩
  refine List.forall_mem_cons.mpr ⟨.inr ⟨_, _, PyProof.Rows.boot_str, call_strX, p_str⟩, ?_⟩
  refine List.forall_mem_cons.mpr ⟨.inl ⟨_, _, boot_all, cr_all C.calm, p_all⟩, ?_⟩
  refine List.forall_mem_cons.mpr ⟨.inl ⟨_, _, boot_any, cr_any C.calm, p_any⟩, ?_⟩
  refine List.forall_mem_cons.mpr ⟨.inl ⟨_, _, boot_sum, cr_sum C.calm, p_sum⟩, ?_⟩
  refine List.forall_mem_cons.mpr ⟨.inl ⟨_, _, boot_sorted, cr_sortedI, p_sorted⟩, ?_⟩
  refine List.forall_mem_cons.mpr ⟨.inl ⟨_, _, boot_repr, call_reprX C.gd (by omega), p_repr⟩, ?_⟩
  exact fun t h => nomatch h
theorem bltF_ok (C : CtxOk X c) {x : Str} {n : Nat} {f : FA} (h : bltF x n = some f) : BltOk X x f := by
  unfold bltF at h
  obtain ⟨t, h1, rfl⟩ := Option.map_eq_some_iff.mp h
  have hm := List.mem_of_find?_eq_some h1
  have hp := List.find?_some h1
  simp only [Bool.and_eq_true, decide_eq_true_eq] at hp
  rw [← hp.1]
  exact bltTab_ok C t hm
theorem tyTab_ok : ∀ t ∈ tyTab, bootBuiltins t.1 = some (.type t.2) := by
  unfold tyTab
  refine List.forall_mem_cons.mpr ⟨PyProof.Rows.boot_int, ?_⟩
  refine List.forall_mem_cons.mpr ⟨PyProof.Rows.boot_bool, ?_⟩
  refine List.forall_mem_cons.mpr ⟨PyProof.Rows.boot_str, ?_⟩
  refine List.forall_mem_cons.mpr ⟨PyProof.Rows.boot_list, ?_⟩
  refine List.forall_mem_cons.mpr ⟨PyProof.Rows.boot_tuple, ?_⟩
  exact fun t h => nomatch h
theorem tyOf_ok (C : CtxOk X c) {x : Str} {T : String} (hb : c.blt x = true) (h : tyOf x = some T) : IsTyN X x T := by
  obtain ⟨h1, h2, h3, h4⟩ := blt_ok C hb
  unfold tyOf at h
  obtain ⟨t, e1, rfl⟩ := Option.map_eq_some_iff.mp h
  have hm := List.mem_of_find?_eq_some e1
  have hp := List.find?_some e1
  simp only [decide_eq_true_eq] at hp
  refine ⟨h1, h2, ?_, h4, h3⟩
  rw [← hp]
  exact tyTab_ok t hm
theorem tyNamesC_ok (C : CtxOk X c) : ∀ {es : List Expr} {Ts : List String}, tyNamesC c es = some Ts → TyNs X es Ts ∧ Ts.length = es.length
  | [], _, h => by cases h; exact ⟨.nil, rfl⟩
  | e :: es, Ts, h => by
    unfold tyNamesC at h
    split at h
    · rename_i e; cases e
    · rename_i x p es' e
      cases e
      split at h
      · rename_i hb
        split at h
        · rename_i T Ts' h1 h2
          cases h
          obtain ⟨r, hl⟩ := tyNamesC_ok C h2
          exact ⟨.cons (tyOf_ok C hb h1) r, by simp [hl]⟩
        · cases h
      · cases h
    · cases h
theorem cIsi_ok (L : LvOk l) (C : CtxOk X c) {p pos : Pos} (hb : c.blt "isinstance" = true) (args : List Expr) : SE X (.Call (.Name "isinstance" p) args [] pos) (cIsi l c args) := by
  obtain ⟨h1, h2, _, _⟩ := blt_ok C hb
  unfold cIsi
  split
  · rename_i e x p'
    split
    · exact se_no
    · rename_i hs
      split
      · rename_i hbx
        split
        · rename_i T hT
          exact se_isi1 h1 h2 (L.E X c C e) (tyOf_ok C hbx hT) (by simpa using hs)
        · exact se_no
      · exact se_no
  · rename_i e es' k p'
    split
    · exact se_no
    · rename_i hs
      split
      · rename_i hl
        split
        · rename_i Ts hT
          obtain ⟨r, hn⟩ := tyNamesC_ok C hT
          exact se_isiT h1 h2 (L.E X c C e) r (by rw [hn, sizeLine_eq]; omega) (by simpa using hs)
        · exact se_no
      · exact se_no
  · exact se_no
/-! ### defs -/
theorem kwNames_ok {pos : Pos} {env : Env} : ∀ {ks : List Keyword} {xs : List Str}, kwNames ks = some xs → (backToKw pos (keywordEach ks env)).all (·.1.isSome) = true ∧ (backToKw pos (keywordEach ks env)).filterMap (·.1) = xs ∧ (backToKw pos (keywordEach ks env)).any (·.1.isNone) = false
  | [], _, h => by cases h; exact ⟨rfl, rfl, rfl⟩
  | k :: ks, xs, h => by
    unfold kwNames at h
    split at h
    · rename_i e; cases e
    · rename_i x v p ks' e
      cases e
      cases h2 : kwNames ks with
      | none => rw [h2] at h; cases h
      | some ys =>
        rw [h2] at h
        cases h
        obtain ⟨a, b, d⟩ := kwNames_ok (pos := pos) (env := env) h2
        refine ⟨?_, ?_, ?_⟩
        · simpa [backToKw, keywordEach] using a
        · simpa [backToKw, keywordEach] using b
        · simpa [backToKw, keywordEach] using d
    · cases h
theorem cK_ok (L : LvOk l) (C : CtxOk X c) : ∀ ks : List Keyword, PK X ks (tA X.K (cK l c ks))
  | [] => ⟨fun pos pins s σ H Q I ⟨F, fm, vs, fm', R, em, q⟩ => pk_nil.run pos pins s σ H Q I (by cases em; exact q [] F H (Aft.refl R) .nil .nil)⟩
  | ⟨nm, e, kp⟩ :: ks => ⟨fun pos pins s σ H Q I h => (pk_cons (L.E X c C e) (cK_ok L C ks)).run pos pins s σ H Q I (by
      obtain ⟨F, fm, vs, fm', R, em, q⟩ := h
      unfold cK mCons at em
      split at em
      · rename_i v fm1 e1
        split at em
        · rename_i ws fm2 e2
          cases em
          refine ⟨F, fm, v, fm1, R, e1, fun x F1 H1 A1 V1 N1 => ⟨F1, fm1, ws, _, A1.rel, e2, fun xs F2 H2 A2 V2 N2 => ?_⟩⟩
          refine q (x :: xs) F2 H2 (A1.trans A2) (.cons (A2.val V1) V2 fun c ec j c' ej z => ?_) (.cons N1 (N2.back A1.ext))
          subst ec
          obtain ⟨p, rfl, hf, hc, hl⟩ := V1
          obtain ⟨o, ho⟩ := hc.some'
          have := N2.get ej z p rfl
          rw [ho] at this; cases this
        · cases em
      · cases em)⟩
theorem cDef_ok (L : LvOk l) (C : CtxOk X c) {x : Str} {p pos : Pos} {d : DI} (hg : c.glo x = true) (hd : DefOk X x d) (args : List Expr) (kws : List Keyword) : SE X (.Call (.Name x p) args kws pos) (cDef l c d args kws) := by
  obtain ⟨g1, g2, g3⟩ := glo_ok C hg
  obtain ⟨k, f, fd, F, hr, hm, hk, hb, hkw⟩ := hd.ex
  unfold cDef
  split
  · split
    · rename_i hn
      cases args with
      | nil =>
        refine pe_le (pe_callG0 (E := fun _ _ _ => False) F hr C.gd g1 hm hk hb g2) fun σ H Q h => ?_
        obtain ⟨F, fm, vs, fm', R, em, q⟩ := tE_call (E := fun _ _ _ => False) h
        cases em
        exact q [] F H (Aft.refl R) .nil .nil
      | cons e es =>
        have hn' : isStar e = false ∧ noStars es = true := by
          unfold noStars at hn
          rw [List.all_cons, Bool.and_eq_true] at hn
          exact ⟨by simpa using hn.1, hn.2⟩
        exact pe_le (pe_callG (E := fun _ _ _ => False) F hr C.gd g1 hm hk hb (cA_ok L C (e :: es)) g2 hn'.1 hn'.2) fun σ H Q h => tE_call h
    · exact se_no
  · split
    · rename_i ks _ hks
      split
      · rename_i pm hpm
        obtain ⟨a, b, n⟩ := kwNames_ok (pos := pos) (env := X.env) hks
        refine pe_le (pe_callGK (E := fun _ _ _ => False) F hr C.gd g1 hm hk (hkw _ _ hpm) (cK_ok L C _) g2 a b (by rw [n]; rfl)) fun σ H Q h => ?_
        obtain ⟨F, fm, vs, fm', R, em, q⟩ := tA_perm (tE_call (E := fun _ _ _ => False) h)
        refine ⟨F, fm, vs, fm', R, em, fun xs F' H' A V N => ?_⟩
        obtain ⟨q1, q2⟩ := q xs F' H' A V N
        rw [List.append_nil] at q2
        exact ⟨q1, q2⟩
      · exact se_no
    · exact se_no
theorem cSpec_ok (L : LvOk l) (C : CtxOk X c) {x : Str} {p pos : Pos} {m : ME} {args : List Expr} (hb : c.blt x = true) (h : cSpec l c x args = some m) : SE X (.Call (.Name x p) args [] pos) m := by
  obtain ⟨g1, g2, _, _⟩ := blt_ok C hb
  unfold cSpec at h
  split at h
  · rename_i y p1 es p2
    by_cases hx : x = "sorted" ∧ y = "set" ∧ c.blt y = true
    · rw [if_pos hx] at h
      obtain ⟨rfl, rfl, hy⟩ := hx
      obtain ⟨k1, k2, _, _⟩ := blt_ok C hy
      split at h
      · rename_i e
        split at h
        · cases h
        · rename_i hs
          cases h
          exact se_sortSet C.calm g1 g2 k1 k2 (L.E X c C e) (by simpa using hs)
      · cases h
    rw [if_neg hx] at h
    by_cases hz : x = "tuple" ∧ y = "range" ∧ c.blt y = true
    · rw [if_pos hz] at h
      obtain ⟨rfl, rfl, hy⟩ := hz
      obtain ⟨k1, k2, _, _⟩ := blt_ok C hy
      split at h
      · rename_i a b
        split at h
        · cases h
        · rename_i hs
          cases h
          simp only [Bool.or_eq_true, not_or, Bool.not_eq_true] at hs
          exact se_tupRan C.calm g1 g2 k1 k2 (cA_ok L C [a, b]) hs.1 hs.2
      · cases h
    rw [if_neg hz] at h
    cases h
  · cases h
theorem cFun_ok (L : LvOk l) (C : CtxOk X c) {x : Str} {p pos : Pos} (args : List Expr) (kws : List Keyword) : SE X (.Call (.Name x p) args kws pos) (cFun l c x args kws) := by
  unfold cFun
  split
  · rename_i hg
    obtain ⟨g1, g2, g3⟩ := glo_ok C hg
    split
    · rename_i hb
      have hbl : c.blt x = true := by unfold Cc.blt; rw [hg, hb]; rfl
      split
      · split
        · rename_i e
          subst e
          exact cIsi_ok L C hbl args
        · split
          · rename_i m hm
            exact cSpec_ok L C hbl hm
          split
          · rename_i hn
            cases args with
            | nil => simp at hn
            | cons e es =>
              have hn' : isStar e = false ∧ noStars es = true := by
                simp only [Bool.and_eq_true] at hn
                have := hn.1
                unfold noStars at this
                rw [List.all_cons, Bool.and_eq_true] at this
                exact ⟨by simpa using this.1, this.2⟩
              split
              · rename_i f hf
                rcases bltF_ok C hf with ⟨id, r, h1, h2, h3⟩ | ⟨T, r, h1, h2, h3⟩
                · exact se_callB h2 h3 g1 (C.bl x hb) h1 (cA_ok L C (e :: es)) g3 g2 (star_cons hn'.1) (back_plain hn'.2)
                · exact se_callTy h2 h3 g1 (C.bl x hb) h1 (cA_ok L C (e :: es)) g3 g2 (star_cons hn'.1) (back_plain hn'.2)
              · exact se_no
          · exact se_no
      · exact se_no
    · split
      · rename_i d hd
        exact cDef_ok L C hg (C.df x d hd) args kws
      · exact se_no
  · exact se_no
end
end Rf

/-! Rg7: methods, targets, walks, comprehensions. -/
namespace Rf
open PySem PySem.Spec PyProof.Rows L2

section
variable {l : Lv} {X : Cx} {c : Cc} {e o : Expr} {es : List Expr} {apos cpos pos : Pos} {m : Str}
theorem pe_or {t t' : TE} (h : PE X e t) (h' : PE X e t') : PE X e (fun σ H Q => t σ H Q ∨ t' σ H Q) := ⟨fun pins s σ H Q I q => q.elim (h.run pins s σ H Q I) (h'.run pins s σ H Q I)⟩
theorem few_of (hn : noStars (e :: es) = true) (hl : (e :: es).length ≤ 20) (cpos : Pos) (env : Env) :
    ((backTo cpos (starEach (e :: es) env)).all (fun x => !x.1) && (backToKw cpos (keywordEach [] env)).all (fun x => x.1.isSome) && decide ((e :: es).length + ([] : List Keyword).length + (if ([] : List Keyword).isEmpty then 0 else 1) < 30)) = true := by
  rw [back_all hn]
  have : decide ((e :: es).length + ([] : List Keyword).length + (if ([] : List Keyword).isEmpty then 0 else 1) < 30) = true := decide_eq_true (by simp at hl ⊢; omega)
  rw [this]
  rfl
theorem stars_cons (hn : noStars (e :: es) = true) : isStar e = false ∧ noStars es = true := by
  unfold noStars at hn
  rw [List.all_cons, Bool.and_eq_true] at hn
  exact ⟨by simpa using hn.1, hn.2⟩
theorem cMet_ok (L : LvOk l) (C : CtxOk X c) (hline : (apos.endLine == cpos.line) = true) (args : List Expr) : SE X (.Call (.Attribute o m apos) args [] cpos) (cMet l c o m args) := by
  unfold cMet
  by_cases h0 : (isCall0 o || !noStars args || decide (20 < args.length)) = true
  · rw [if_pos h0]; exact se_no
  rw [if_neg h0]
  have hc : isCall0 o = false ∧ noStars args = true ∧ args.length ≤ 20 := by
    simp only [Bool.or_eq_true, not_or, Bool.not_eq_true, Bool.not_eq_false', decide_eq_true_eq] at h0
    exact ⟨h0.1.1, h0.1.2, by omega⟩
  cases args with
  | nil =>
    have z : ∀ {α : Type} (a b : α) (p : Prop) [Decidable p], a = b → (if p then a else b) = b := fun a b p _ e => by split <;> simp [e]
    refine se_no' fun fm => ?_
    by_cases h1 : m = "append"
    · rw [if_pos h1]; rfl
    rw [if_neg h1]
    by_cases h2 : m = "extend"
    · rw [if_pos h2]; rfl
    rw [if_neg h2]
    by_cases h3 : m = "pop"
    · rw [if_pos h3]; rfl
    rw [if_neg h3]
    by_cases h5 : m = "insert"
    · rw [if_pos h5]; rfl
    rw [if_neg h5]
    by_cases h4 : m = "index"
    · rw [if_pos h4]; rfl
    rw [if_neg h4]; rfl
  | cons e es =>
    obtain ⟨s1, s2⟩ := stars_cons hc.2.1
    have few := few_of hc.2.1 hc.2.2 cpos X.env
    have gen : ∀ {T id : String} {r : V → List V → Hp → VK → Prop}, PlainAttrs T → Slot T m id → typeOf (.builtin id) = pure (.type "method_descriptor") → MtR X id r → PE X (.Call (.Attribute o m apos) (e :: es) [] cpos) (tMtP X.K T r (tE X.K (l.E c o)) (tA X.K (cA l c (e :: es)))) :=
      fun pa sl ty mt => pe_mtP pa sl ty mt (L.E X c C o) (cA_ok L C (e :: es)) (base_of hc.1) few hline (star_cons s1) (back_plain s2)
    by_cases h1 : m = "append"
    · subst h1
      rw [if_pos rfl]
      split
      · exact pe_le (gen PySem.F.plainAttrs_list PySem.F.slot_list_append PySem.F.type_list_append mt_append) fun σ H Q h => tE_mtZ p_append h
      · exact se_no
    rw [if_neg h1]
    by_cases h2 : m = "extend"
    · subst h2
      rw [if_pos rfl]
      split
      · exact pe_le (gen PySem.F.plainAttrs_list PySem.F.slot_list_extend PySem.F.type_list_extend mt_extend) fun σ H Q h => tE_mt p_extend h
      · exact se_no
    rw [if_neg h2]
    by_cases h3 : m = "pop"
    · subst h3
      rw [if_pos rfl]
      split
      · exact pe_le (gen PySem.F.plainAttrs_list PySem.F.slot_list_pop PySem.F.type_list_pop mt_popAt) fun σ H Q h => tE_mt p_popAt h
      · exact se_no
    rw [if_neg h3]
    by_cases h5 : m = "insert"
    · subst h5
      rw [if_pos rfl]
      split
      · exact pe_le (gen PySem.F.plainAttrs_list PySem.F.slot_list_insert PySem.F.type_list_insert mt_insert) fun σ H Q h => tE_mtZ p_insert h
      · exact se_no
    rw [if_neg h5]
    by_cases h4 : m = "index"
    · subst h4
      rw [if_pos rfl]
      split
      · refine pe_le (pe_or (gen PySem.F.plainAttrs_tuple PySem.F.slot_tuple_index PySem.F.type_tuple_index mt_idxT) (gen PySem.F.plainAttrs_list PySem.F.slot_list_index PySem.F.type_list_index mt_idxL)) fun σ H Q h => ?_
        obtain ⟨F, fm, v, fm', R, em, q⟩ := h
        simp only at em
        split at em
        · rename_i r er
          cases em
          exact .inl (tE_mt p_idx ⟨F, fm, v, fm', R, er, q⟩)
        · exact .inr (tE_mt p_idx ⟨F, fm, v, fm', R, em, q⟩)
      · exact se_no
    rw [if_neg h4]
    exact se_no
/-! ### targets -/
theorem cG1_ok (L : LvOk l) (C : CtxOk X c) {tg : Expr} {g : MG} (h : cG1 l c tg = some g) : SG X (Dq X.K) c.ro tg g := by
  unfold cG1 at h
  split at h
  · rename_i x p
    obtain ⟨i, hi, rfl⟩ := Option.map_eq_some_iff.mp h
    obtain ⟨h1, h2, h3, h4⟩ := sto_ok' C hi
    exact sg_name (by rw [C.N]; exact C.nd) h3 h1 h2 h4
  · rename_i x p lo hi p2 p3
    obtain ⟨i, hi, rfl⟩ := Option.map_eq_some_iff.mp h
    obtain ⟨h1, h2, h3, h4⟩ := slot_ok C hi
    exact sg_splice h1 h2 h3 h4 (cO_ok L C _) (cO_ok L C _)
  · rename_i x p e p2 _
    split at h
    · cases h
    · rename_i hs
      obtain ⟨i, hi, rfl⟩ := Option.map_eq_some_iff.mp h
      obtain ⟨h1, h2, h3, h4⟩ := slot_ok C hi
      exact sg_ix h1 h2 h3 h4 (L.E X c C e) (by simpa using hs)
  · cases h
theorem cGs_ok (L : LvOk l) (C : CtxOk X c) : ∀ {tgs : List Expr} {r : MGs}, cGs l c tgs = some r → SGs X c.ro tgs r ∧ (assignEach tgs X.env).length = tgs.length ∧ (assignEach tgs X.env).findIdx? (·.1) = none
  | [], _, h => by cases h; exact ⟨sgs_nil, rfl, rfl⟩
  | e :: es, r, h => by
    unfold cGs at h
    split at h
    · cases h
    · rename_i hs
      split at h
      · rename_i g r' h1 h2
        cases h
        obtain ⟨a, b, d⟩ := cGs_ok L C h2
        have hs' : isStar e = false := by simpa using hs
        have ea : assignEach (e :: es) X.env = (false, assign e X.env) :: assignEach es X.env := by
          cases e <;> first | rfl | cases hs'
        refine ⟨sgs_cons (cG1_ok L C h1) a (by rw [ea]; rfl), by rw [ea, List.length_cons, List.length_cons, b], ?_⟩
        rw [ea, List.findIdx?_cons]
        simp [d]
      · cases h
theorem cG_tup (L : LvOk l) (C : CtxOk X c) {ts : List Expr} {k : Nat} {p : Pos} {g : MG} (h : cG l c (.Tuple ts k p) = some g) : SG X (Dw X.K) c.ro (.Tuple ts k p) g := by
  unfold cG at h
  obtain ⟨r, hr, rfl⟩ := Option.map_eq_some_iff.mp h
  obtain ⟨a, b, d⟩ := cGs_ok L C hr
  exact sg_tup C.calm a b d
theorem cG_ok (L : LvOk l) (C : CtxOk X c) {tg : Expr} {g : MG} (h : cG l c tg = some g) : SG X (Dq X.K) c.ro tg g := by
  by_cases ht : ∃ ts k p, tg = .Tuple ts k p
  · obtain ⟨ts, k, p, rfl⟩ := ht
    exact sg_weak (cG_tup L C h)
  · have : cG1 l c tg = some g := by
      cases tg <;> first | exact h | exact absurd ⟨_, _, _, rfl⟩ ht
    exact cG1_ok L C this
/-! ### walks -/
theorem cIw_ok (L : LvOk l) (C : CtxOk X c) {iter : Expr} {mi : MI} {ts : List Expr} {k : Nat} {p : Pos} (h : cIw l c iter = some mi) : SI X (Dw X.K) (.Tuple ts k p) iter mi := by
  unfold cIw at h
  split at h
  · rename_i x p1 args p2
    by_cases hx : x = "enumerate" ∧ c.blt x = true
    · rw [if_pos hx] at h
      obtain ⟨rfl, hb⟩ := hx
      obtain ⟨g1, g2, _, _⟩ := blt_ok C hb
      split at h
      · rename_i a
        split at h
        · cases h
        · rename_i hs
          cases h
          have hs' : isStar a = false := by simpa using hs
          exact si_enm g1 g2 (cA_ok L C [a]) (star_cons hs')
      · cases h
    rw [if_neg hx] at h
    by_cases hy : x = "zip" ∧ c.blt x = true
    · rw [if_pos hy] at h
      obtain ⟨rfl, hb⟩ := hy
      obtain ⟨g1, g2, _, _⟩ := blt_ok C hb
      split at h
      · rename_i a b
        split at h
        · cases h
        · rename_i hs
          cases h
          simp only [Bool.or_eq_true, not_or, Bool.not_eq_true] at hs
          exact si_zip g1 g2 (cA_ok L C [a, b]) (star_cons hs.1) (back_plain (by simp [noStars, hs.2]))
      · cases h
    rw [if_neg hy] at h
    cases h
  · cases h
theorem cI_ok (L : LvOk l) (C : CtxOk X c) {tg : Expr} (iter : Expr) : SI X (Dq X.K) tg iter (cI l c iter) := by
  unfold cI
  split
  · rename_i x p1 args p2
    by_cases hx : x = "range" ∧ c.blt x = true
    · rw [if_pos hx]
      obtain ⟨rfl, hb⟩ := hx
      obtain ⟨g1, g2, _, _⟩ := blt_ok C hb
      split
      · rename_i a
        split
        · exact si_no
        · rename_i hs
          have hs' : isStar a = false := by simpa using hs
          exact si_ran g1 g2 (cA_ok L C [a]) (star_cons hs')
      · rename_i a b
        split
        · exact si_no
        · rename_i hs
          simp only [Bool.or_eq_true, not_or, Bool.not_eq_true] at hs
          have e2 : starEach [b] X.env = [(false, eval b X.env)] := star_cons hs.2
          exact si_ran2 g1 g2 (cA_ok L C [a, b]) (by rw [star_cons hs.1, e2]) e2
      · exact si_no
    rw [if_neg hx]
    exact si_seq (L.E X c C _)
  · exact si_seq (L.E X c C _)
end
end Rf

/-! Rg8: comprehensions, expressions, statements. -/
namespace Rf
open PySem PySem.Spec PyProof.Rows L2

section
variable {l : Lv} {X : Cx} {c : Cc} {e o : Expr} {es : List Expr} {pos : Pos}
theorem gok_set {i : Nat} : GOk (gSet i) := fun d fm fm' h => by
  cases h
  exact ⟨List.length_set, keeps_set⟩
def GsOk (r : MGs) : Prop := ∀ ds fm fm', r ds fm = some fm' → fm'.length = fm.length ∧ Keeps fm fm'
theorem gsok_nil : GsOk gsNil := fun ds fm fm' h => by
  unfold gsNil at h
  split at h
  · cases h; exact ⟨rfl, Keeps.refl _⟩
  · cases h
theorem gsok_cons {g : MG} {r : MGs} (hg : GOk g) (hr : GsOk r) : GsOk (gsCons g r) := fun ds fm fm' h => by
  unfold gsCons at h
  split at h
  · split at h
    · rename_i fm1 e1
      obtain ⟨a, b⟩ := hg _ _ _ e1
      obtain ⟨c, d⟩ := hr _ _ _ h
      exact ⟨c.trans a, b.trans d⟩
    · cases h
  · cases h
theorem gok_tup {n : Nat} {r : MGs} (hr : GsOk r) : GOk (gTupD n r) := fun d fm fm' h => by
  unfold gTupD at h
  split at h
  · split at h
    · exact hr _ _ _ h
    · cases h
  · cases h
theorem cG1_gok {tg : Expr} {g : MG} (hn : (match tg with | .Name _ _ => true | _ => false) = true) (h : cG1 l c tg = some g) : GOk g := by
  cases tg <;> first | (cases hn; done) | skip
  unfold cG1 at h
  obtain ⟨i, hi, rfl⟩ := Option.map_eq_some_iff.mp h
  exact gok_set
theorem cGs_gok : ∀ {tgs : List Expr} {r : MGs}, (tgs.all fun e => match e with | .Name _ _ => true | _ => false) = true → cGs l c tgs = some r → GsOk r
  | [], _, _, h => by cases h; exact gsok_nil
  | e :: es, r, hn, h => by
    rw [List.all_cons, Bool.and_eq_true] at hn
    unfold cGs at h
    split at h
    · cases h
    · split at h
      · rename_i g r' h1 h2
        cases h
        exact gsok_cons (cG1_gok hn.1 h1) (cGs_gok hn.2 h2)
      · cases h
theorem cG_gok {tg : Expr} {g : MG} (hn : namesOnly tg = true) (h : cG l c tg = some g) : GOk g := by
  cases tg <;> first | (cases hn; done) | skip
  · rename_i x p
    have h' : cG1 l c (.Name x p) = some g := h
    exact cG1_gok rfl h'
  · unfold cG at h
    obtain ⟨r, hr, rfl⟩ := Option.map_eq_some_iff.mp h
    exact gok_tup (cGs_gok hn hr)
theorem comp_ok (C : CtxOk X c) {scope : Scope} (hb : BlkOk X.N X.env.scope scope (ownOf c.N scope)) (s : Shared) (H : Hp) (A : Addr) (cl : List (Str × Addr)) (fp : List Addr) : CtxOk (X.blk s H scope (compEnvC scope cl A X.env) fp) (c.comp scope) := by
  refine ⟨C.N, ?_, hb.kind, C.nd, C.calm, fun x h => h, C.gd, C.un, C.bl, fun x d h => ⟨(C.df x d h).ex⟩⟩
  show relabel scope X.env = relS scope c.sc
  rw [relabel_eq, ← C.sc]
  rfl
theorem cT1_ok (L : LvOk l) (C : CtxOk X c) (ifs : List Expr) : PTs X ifs (tT X.K (cT1 l c ifs)) := by
  unfold cT1
  split
  · exact ⟨fun pins s σ H Q I ⟨F, fm, b, fm', R, em, q⟩ => pts_nil.run pins s σ H Q I (by cases em; exact q F H (Aft.refl R))⟩
  · exact pts_one (L.T X c C _)
  · exact ⟨fun _ _ _ _ _ _ ⟨_, _, _, _, _, em, _⟩ => nomatch em⟩
theorem ro_comp {scope : Scope} : ∀ i, i < c.N.length → i ∈ (c.comp scope).ro ∨ i ∈ (ownOf c.N scope).map (·.2) := fun i hi => by
  by_cases h : i ∈ (ownOf c.N scope).map (·.2)
  · exact .inr h
  · refine .inl (List.mem_filter.mpr ⟨List.mem_range.mpr hi, ?_⟩)
    simpa [List.contains_iff_mem] using h
/-- its parts, for either way that it is used -/
structure LcParts (X : Cx) (c : Cc) (elt tg iter : Expr) (ifs : List Expr) (scope : Scope) (Rl : RLT) (mi : MI) (g : MG) (mt : MT) (me : ME) : Prop where
  it : SI X Rl tg iter mi
  blk : BlkOk X.N X.env.scope scope (ownOf c.N scope)
  tgt : ∀ (s : Shared) (H : Hp) (A : Addr) (cl : List (Str × Addr)) (fp : List Addr), SG (X.blk s H scope (compEnvC scope cl A X.env) fp) Rl (c.comp scope).ro tg g
  tst : ∀ (s : Shared) (H : Hp) (A : Addr) (cl : List (Str × Addr)) (fp : List Addr), PTs (X.blk s H scope (compEnvC scope cl A X.env) fp) ifs (tT X.K mt)
  elm : ∀ (s : Shared) (H : Hp) (A : Addr) (cl : List (Str × Addr)) (fp : List Addr), SE (X.blk s H scope (compEnvC scope cl A X.env) fp) elt me
  gok : GOk g
  fld : isSetD iter = false
theorem LcParts.se (C : CtxOk X c) {elt tg iter : Expr} {ifs : List Expr} {scope : Scope} {Rl : RLT} {mi : MI} {g : MG} {mt : MT} {me : ME} (P : LcParts X c elt tg iter ifs scope Rl mi g mt me) :
    SE X (.ListComp elt [⟨tg, iter, ifs, 0⟩] scope pos) (mLc c.N.length mi g mt me ((ownOf c.N scope).map (·.2))) :=
  pe_le (pe_lc (g := tG X.K Rl (c.comp scope).ro g) (tt := tT X.K mt) (te := tE X.K me) C.calm (by rw [C.N]; exact C.nd) P.it P.blk P.tgt P.tst P.elm (folded_of P.fld)) fun σ H Q h => tE_lc P.gok ro_comp h
theorem LcParts.ss (C : CtxOk X c) {elt tg iter : Expr} {ifs : List Expr} {scope : Scope} {Rl : RLT} {mi : MI} {g : MG} {mt : MT} {me : ME} {i : Nat} {y : Str} {py spos : Pos} (P : LcParts X c elt tg iter ifs scope Rl mi g mt me)
    (hi : X.N[i]? = some y) (hl : X.env.scope.names.lookup y = some .local) (hro : i ∉ c.ro) (hsw : swapsWith (.ListComp elt [⟨tg, iter, ifs, 0⟩] scope pos) (some (.Name y py)) spos.line X.env = pure true) :
    SS X c.ro (.Assign [.Name y py] (.ListComp elt [⟨tg, iter, ifs, 0⟩] scope pos) spos) (mSet i (mLc c.N.length mi g mt me ((ownOf c.N scope).map (·.2)))) :=
  ps_le (ps_setLc (g := tG X.K Rl (c.comp scope).ro g) (tt := tT X.K mt) (te := tE X.K me) C.calm (by rw [C.N]; exact C.nd) hi hl hsw P.it P.blk P.tgt P.tst P.elm (folded_of P.fld)) fun D σ H h => by
    have := tS_set hro h
    exact tE_lc P.gok ro_comp this
/-- what the reading of a comprehension is made of -/
theorem cL_parts (L : LvOk l) (C : CtxOk X c) {elt : Expr} {scope : Scope} {gs : List Comprehension} :
    (∀ fm, cL l c elt scope gs fm = none) ∨ ∃ tg iter ifs Rl mi g, gs = [⟨tg, iter, ifs, 0⟩] ∧ cL l c elt scope gs = mLc c.N.length mi g (cT1 l (c.comp scope) ifs) (l.E (c.comp scope) elt) ((ownOf c.N scope).map (·.2)) ∧
      LcParts X c elt tg iter ifs scope Rl mi g (cT1 l (c.comp scope) ifs) (l.E (c.comp scope) elt) := by
  rcases gs with _ | ⟨⟨tg, iter, ifs, is⟩, _ | ⟨g2, gs⟩⟩
  · exact .inl fun _ => rfl
  · by_cases hc : is = 0 ∧ blkC c.N c.sc scope (ownOf c.N scope) = true ∧ isSetD iter = false ∧ namesOnly tg = true
    · have e0 : cL l c elt scope [⟨tg, iter, ifs, is⟩] = (match cG l (c.comp scope) tg with
        | some g => match cIw l c iter with
          | some mi => if isTup tg then mLc c.N.length mi g (cT1 l (c.comp scope) ifs) (l.E (c.comp scope) elt) ((ownOf c.N scope).map (·.2)) else mNo
          | none => mLc c.N.length (cI l c iter) g (cT1 l (c.comp scope) ifs) (l.E (c.comp scope) elt) ((ownOf c.N scope).map (·.2))
        | none => mNo) := by show (if _ then _ else _) = _; rw [if_pos hc] <;> rfl
      obtain ⟨rfl, h1, h2, h3⟩ := hc
      have hb : BlkOk X.N X.env.scope scope (ownOf c.N scope) := by rw [C.N, C.sc]; exact blkOk_by h1
      cases hg : cG l (c.comp scope) tg with
      | none => exact .inl fun fm => by rw [e0, hg]; rfl
      | some g =>
        cases hi : cIw l c iter with
        | none => exact .inr ⟨_, _, _, _, _, g, rfl, by rw [e0, hg, hi], cI_ok L C iter, hb, fun s H A cl fp => cG_ok L (comp_ok C hb s H A cl fp) hg, fun s H A cl fp => cT1_ok L (comp_ok C hb s H A cl fp) ifs, fun s H A cl fp => L.E _ _ (comp_ok C hb s H A cl fp) elt, cG_gok h3 hg, h2⟩
        | some mi =>
          by_cases ht : ∃ ts k p, tg = .Tuple ts k p
          · obtain ⟨ts, k, p, rfl⟩ := ht
            exact .inr ⟨_, _, _, _, mi, g, rfl, by rw [e0, hg, hi]; rfl, cIw_ok L C hi, hb, fun s H A cl fp => cG_tup L (comp_ok C hb s H A cl fp) hg, fun s H A cl fp => cT1_ok L (comp_ok C hb s H A cl fp) ifs, fun s H A cl fp => L.E _ _ (comp_ok C hb s H A cl fp) elt, cG_gok h3 hg, h2⟩
          · refine .inl fun fm => ?_
            have hn : isTup tg = false := by cases tg <;> first | rfl | exact absurd ⟨_, _, _, rfl⟩ ht
            rw [e0, hg, hi, hn]
            rfl
    · exact .inl fun fm => by
        have e0 : cL l c elt scope [⟨tg, iter, ifs, is⟩] = mNo := by show (if _ then _ else _) = _; rw [if_neg hc]
        rw [e0]; rfl
  · exact .inl fun _ => rfl
theorem cL_ok (L : LvOk l) (C : CtxOk X c) {elt : Expr} {scope : Scope} {gs : List Comprehension} : SE X (.ListComp elt gs scope pos) (cL l c elt scope gs) := by
  rcases cL_parts (X := X) L C (elt := elt) (scope := scope) (gs := gs) with h | ⟨tg, iter, ifs, Rl, mi, g, rfl, e, P⟩
  · exact se_no' h
  · rw [e]; exact P.se C
/-! ### expressions -/
theorem cBool_ok (L : LvOk l) (C : CtxOk X c) {op : BoolOp} : ∀ es : List Expr, SE X (.BoolOp op es pos) (cBool l c op es)
  | [] => se_no
  | [e] => se_one (L.E X c C e)
  | e :: e' :: es => by
    cases op with
    | And => exact se_and (L.E X c C e) (cBool_ok L C (e' :: es))
    | Or => exact se_or (L.E X c C e) (cBool_ok L C (e' :: es))
theorem cBoolT_ok (L : LvOk l) (C : CtxOk X c) {op : BoolOp} : ∀ es : List Expr, SW X (.BoolOp op es pos) (cBoolT l c op es)
  | [] => ⟨fun _ _ _ _ _ _ _ ⟨_, _, _, _, _, em, _⟩ => nomatch em⟩
  | [e] => by
    cases op with
    | And => exact sw_and1 (L.T X c C e)
    | Or => exact sw_or1 (L.T X c C e)
  | e :: e' :: es => by
    cases op with
    | And => exact sw_and (L.T X c C e) (cBoolT_ok L C (e' :: es))
    | Or => exact sw_or (L.T X c C e) (cBoolT_ok L C (e' :: es))
theorem cCmp_ok (L : LvOk l) (C : CtxOk X c) {a : Expr} {ops : List CmpOp} {bs : List Expr} : SE X (.Compare a ops bs pos) (cCmp l c a ops bs) ∧ ST X (.Compare a ops bs pos) (mB (cCmp l c a ops bs)) := by
  unfold cCmp
  split
  · rename_i op b
    split
    · exact ⟨se_no, st_no'⟩
    · rename_i hs
      split
      · rename_i f hf
        obtain ⟨r, h1, h2⟩ := cmpF_ok C hf
        have hm : behindInMarks op b = false := noMark_of (by simpa using hs)
        exact ⟨se_cmp h1 h2 (L.E X c C a) (L.E X c C b) hm, st_cmp h1 h2 (L.E X c C a) (L.E X c C b) hm⟩
      · exact ⟨se_no, st_no'⟩
  · rename_i op op' b d
    split
    · exact ⟨se_no, st_no'⟩
    · rename_i hs
      split
      · rename_i f f' hf hf'
        obtain ⟨r, h1, h2⟩ := cmpF_ok C hf
        obtain ⟨r', h1', h2'⟩ := cmpF_ok C hf'
        simp only [Bool.or_eq_true, not_or, Bool.not_eq_true] at hs
        have hm : lastMarks [op, op'] [b, d] = false := lastMark_of hs.2
        exact ⟨se_chain h1 h1' h2 h2' (L.E X c C a) (L.E X c C b) (L.E X c C d) hm, st_chain h1 h1' h2 h2' (L.E X c C a) (L.E X c C b) (L.E X c C d) hm⟩
      · exact ⟨se_no, st_no'⟩
  · exact ⟨se_no, st_no'⟩
theorem cE_ok (L : LvOk l) (C : CtxOk X c) (e : Expr) : SE X e (cE l c e) := by
  unfold cE
  split
  · split
    · rename_i i hi
      obtain ⟨h1, h2, h3, h4⟩ := slot_ok C hi
      exact se_var i h1 h2 h3 h4
    · exact se_no
  · split
    · exact se_int
    · exact se_bl
    · exact se_str
    · exact se_non
    · exact se_no
  · split
    · rename_i f hf
      obtain ⟨r, h1, h2⟩ := opF_ok (X := X) hf
      exact se_op h1 h2 (L.E X c C _) (L.E X c C _)
    · exact se_no
  · split
    · exact se_not (L.E X c C _)
    · exact se_un un_neg p_neg (L.E X c C _)
    · exact se_no
  · exact cBool_ok L C _
  · exact (cCmp_ok L C).1
  · exact se_ife (L.T X c C _) (L.E X c C _) (L.E X c C _)
  · exact se_lst (cA_ok L C _)
  · exact se_tup (cA_ok L C _)
  · rename_i e1 s1 p1
    split
    · exact se_slice (L.E X c C _) (cO_ok L C _) (cO_ok L C _)
    · rename_i lo hi st p4
      split
      · rename_i hb
        unfold isBack at hb
        split at hb
        · exact se_back (L.E X c C _)
        · cases hb
      · exact se_no
    · rename_i h1 h2
      have hs : isSlice s1 = false := by
        cases s1 <;> first | rfl | skip
        rename_i lo hi st p
        cases st with
        | none => exact absurd rfl (h1 lo hi p)
        | some st => exact absurd rfl (h2 lo hi st p)
      exact se_ix ix_seq p_ix (L.E X c C _) (L.E X c C _) (plainIx_of hs)
  · exact cL_ok L C
  · split
    · exact cFun_ok L C _ _
    · split
      · rename_i hk
        simp only [Bool.and_eq_true, List.isEmpty_iff] at hk
        rw [hk.1]
        exact cMet_ok L C hk.2 _
      · exact se_no
    · exact se_no
  · exact se_no
theorem cT_ok (L : LvOk l) (C : CtxOk X c) (e : Expr) : ST X e (cT l c e) := by
  cases e <;> first
    | exact sw_st (cBoolT_ok L C _)
    | exact (cCmp_ok L C).2
    | exact st_no
    | exact st_val (L.E X c C _)
    | skip
  rename_i op a p
  cases op <;> first
    | exact st_not (L.T X c C _)
    | exact st_val (L.E X c C _)
end
end Rf

/-! Rg9: statements; levels; the defs of a program. -/
namespace Rf
open PySem PySem.Spec PyProof.Rows L2

section
variable {l : Lv} {X : Cx} {c : Cc} {e o tg : Expr} {es ts vs : List Expr} {pos p : Pos} {k : Nat}
theorem swapNs_ok (C : CtxOk X c) {r : Option (List Str)} {k k' : Nat} {p p' : Pos} (h : swapNs c ts vs = some r) : swappedStores [.Tuple ts k p] (.Tuple vs k' p') X.env = pure r := by
  have hb : (X.env.blockKind != .function) = false := by
    unfold Env.blockKind
    rw [C.sc, C.kind]
    rfl
  have hk : ∀ x, X.env.kindOf x = c.sc.names.lookup x := fun x => by unfold Env.kindOf; rw [C.sc]
  have hs : ∀ f : Expr → Bool, (∀ e, f e = isStar e) → vs.any f = vs.any isStar := fun f hf => by rw [funext hf]
  have hm : ∀ f : Expr → Option Str, (∀ e, f e = nmLoc c ((ts.head?.map (·.pos.line)).getD 0) e) → ts.filterMap f = ts.filterMap (nmLoc c ((ts.head?.map (·.pos.line)).getD 0)) := fun f hf => by rw [funext hf]
  unfold swapNs at h
  unfold swappedStores
  simp only [hb, Bool.or_false, hk]
  rw [hs _ (fun e => by cases e <;> rfl), hm _ (fun e => by cases e <;> rfl)]
  split at h
  · rename_i h1
    cases h
    rw [if_pos h1]
  · rename_i h1
    rw [if_neg h1]
    split at h
    · rename_i h2
      cases h
      rw [if_pos h2]
    · rename_i h2
      rw [if_neg h2]
      split at h
      · rename_i h3
        cases h
        rw [if_pos h3]
      · rename_i h3
        rw [if_neg h3]
        split at h
        · rename_i h4
          cases h
          rw [if_pos h4]
        · rename_i h4
          rw [if_neg h4]
          split at h
          · cases h
          · rename_i h5
            cases h
            rw [if_neg h5]
theorem swapped_tup (h : isTupE e = none) : swappedStores [tg] e X.env = pure none := by
  cases e <;> first | (cases h; done) | skip
  all_goals (cases tg <;> rfl)
theorem swapped_sub {i : Expr} : swappedStores [.Subscript o i p] e X.env = pure none := rfl
theorem cV_ok (L : LvOk l) (C : CtxOk X c) {i : Nat} {x : Str} {px : Pos} (h : c.sto x = some i) : SS X c.ro (.Assign [.Name x px] e pos) (mSet i (cV l c e)) := by
  obtain ⟨h1, h2, h3, h4⟩ := sto_ok' C h
  have hN : X.N.Nodup := by rw [C.N]; exact C.nd
  have plain : ∀ {m : ME}, SE X e m → isCompr e = false → SS X c.ro (.Assign [.Name x px] e pos) (mSet i m) := fun he hc => ss_set hN h3 h1 h2 he (swap_of hc) h4
  have no : SS X c.ro (.Assign [.Name x px] e pos) (mSet i mNo) := ⟨fun _ _ _ _ _ _ ⟨_, _, _, _, _, em, _⟩ => nomatch em⟩
  by_cases hl : ∃ elt gs scope p, e = .ListComp elt gs scope p
  · obtain ⟨elt, gs, scope, p, rfl⟩ := hl
    show SS X c.ro _ (mSet i (cL l c elt scope gs))
    rcases cL_parts (X := X) L C (elt := elt) (scope := scope) (gs := gs) with h0 | ⟨tg, iter, ifs, Rl, mi, g, rfl, eq, P⟩
    · refine ⟨fun _ _ _ _ _ _ ⟨_, fm, _, _, _, em, _⟩ => ?_⟩
      unfold mSet at em
      rw [h0 fm] at em
      cases em
    · rw [eq]
      have sw : swapsWith (.ListComp elt [⟨tg, iter, ifs, 0⟩] scope p) (some (.Name x px)) pos.line X.env = pure (X.env.blockKind == .function && X.env.kindOf x == some .local && px.line == p.line && !(scope.names.any fun (n, k) => n == x && (k == .local || k == .cell))) := rfl
      cases hb : (X.env.blockKind == .function && X.env.kindOf x == some .local && px.line == p.line && !(scope.names.any fun (n, k) => n == x && (k == .local || k == .cell))) with
      | true =>
        rw [hb] at sw
        have hloc : X.env.scope.names.lookup x = some .local := by
          simp only [Bool.and_eq_true] at hb
          have := hb.1.1.2
          exact eq_of_beq this
        exact P.ss C h1 hloc h3 sw
      | false =>
        rw [hb] at sw
        exact ss_set hN h3 h1 h2 (P.se C) sw h4
  · by_cases hs : isSD e = true
    · have : cV l c e = mNo := by
        cases e <;> first | (cases hs; done) | rfl
      rw [this]
      exact no
    · have hs' : isSD e = false := by simpa using hs
      have hc : isCompr e = false := by
        cases e <;> first | rfl | (cases hs'; done) | exact absurd ⟨_, _, _, _, rfl⟩ hl
      have : cV l c e = l.E c e := by
        cases e <;> first | rfl | (cases hs'; done) | exact absurd ⟨_, _, _, _, rfl⟩ hl
      rw [this]
      exact plain (L.E X c C e) hc
theorem cTgt_ok (L : LvOk l) (C : CtxOk X c) (hs : isCompr e = false) (hw : swappedStores [.Tuple ts k p] e X.env = pure none) : SS X c.ro (.Assign [.Tuple ts k p] e pos) (cTgt l c ts e) := by
  unfold cTgt
  split
  · rename_i r hr
    have hg : cG l c (.Tuple ts k p) = some (gTupD ts.length r) := by
      show (cGs l c ts).map _ = _
      rw [hr]; rfl
    exact ss_asg (L.E X c C e) (cG_ok L C hg) (swapSole_of hs) hw
  · exact ss_no
theorem cPar_ok (L : LvOk l) (C : CtxOk X c) {k' : Nat} {p' : Pos} : SS X c.ro (.Assign [.Tuple ts k p] (.Tuple vs k' p') pos) (cPar l c ts vs) := by
  have hN : X.N.Nodup := by rw [C.N]; exact C.nd
  unfold cPar
  split
  · rename_i x px y py a b
    split
    · rename_i hw
      split
      · rename_i i j hi hj
        split
        · rename_i ne
          obtain ⟨a1, a2, a3⟩ := loc_ok C hi
          obtain ⟨b1, b2, b3⟩ := loc_ok C hj
          refine ss_par2 C.calm hN a1 b1 ne a2 b2 (fun n hn => ?_) (cA_ok L C [a, b]) (swapNs_ok C hw) (swapSole_of rfl)
          rcases List.mem_cons.mp hn with rfl | hn
          · exact a3
          · rcases List.mem_cons.mp hn with rfl | hn
            · exact b3
            · cases hn
        · exact ss_no
      · exact ss_no
    · exact ss_no
  · rename_i x px y py z pz a b d
    split
    · rename_i hw
      split
      · rename_i i j n hi hj hn
        split
        · rename_i ne
          obtain ⟨a1, a2, a3⟩ := loc_ok C hi
          obtain ⟨b1, b2, b3⟩ := loc_ok C hj
          obtain ⟨d1, d2, d3⟩ := loc_ok C hn
          refine ss_par3 C.calm hN a1 b1 d1 ne.1 ne.2.1 ne.2.2 a2 b2 d2 (fun n hn => ?_) (cA_ok L C [a, b, d]) (swapNs_ok C hw) (swapSole_of rfl)
          rcases List.mem_cons.mp hn with rfl | hn
          · exact a3
          · rcases List.mem_cons.mp hn with rfl | hn
            · exact b3
            · rcases List.mem_cons.mp hn with rfl | hn
              · exact d3
              · cases hn
        · exact ss_no
      · exact ss_no
    · exact ss_no
  · exact ss_no
theorem isTupE_eq {vs : List Expr} (h : isTupE e = some vs) : ∃ k p, e = .Tuple vs k p := by
  cases e <;> first | (cases h; done) | skip
  cases h
  exact ⟨_, _, rfl⟩
theorem cAsg_ok (L : LvOk l) (C : CtxOk X c) : SS X c.ro (.Assign [tg] e pos) (cAsg l c e tg) := by
  cases tg <;> first | exact ss_no | skip
  · rename_i o i p
    show SS X c.ro _ (if isCompr e = true then mNoS else _)
    split
    · exact ss_no
    · rename_i hc
      split
      · rename_i g hg
        exact ss_asg (L.E X c C e) (cG1_ok L C hg) (swapSole_of (by simpa using hc)) swapped_sub
      · exact ss_no
  · rename_i x p
    show SS X c.ro _ (match c.sto x with | some i => mSet i (cV l c e) | none => mNoS)
    split
    · rename_i i hi
      exact cV_ok L C hi
    · exact ss_no
  · rename_i ts k p
    show SS X c.ro _ (match isTupE e with | some vs => (match swapNs c ts vs with | some (some _) => cPar l c ts vs | some none => cTgt l c ts e | none => mNoS) | none => if isCompr e then mNoS else cTgt l c ts e)
    split
    · rename_i vs hv
      obtain ⟨k', p', rfl⟩ := isTupE_eq hv
      split
      · exact cPar_ok L C
      · rename_i hw
        exact cTgt_ok L C rfl (swapNs_ok C hw)
      · exact ss_no
    · rename_i hv
      split
      · exact ss_no
      · rename_i hc
        exact cTgt_ok L C (by simpa using hc) (swapped_tup hv)
theorem cS_ok (L : LvOk l) (C : CtxOk X c) (hx : X.xe = fun _ _ => False) (st : Stmt) : SS X c.ro st (cS l c st) := by
  have hp : PassesOwn (model X.prog X.w) X.A X.env X.xe := by rw [hx]; exact PassesOwn.never
  unfold cS
  split
  · split
    · exact cAsg_ok L C
    · exact ss_no
  · split
    · exact ss_no
    · rename_i hc
      exact ss_expr (L.E X c C _) (swap_of (by simpa using hc))
  · split
    · exact ss_ret (L.E X c C _)
    · exact ss_retN
  · exact ss_pass
  · exact ss_break
  · exact ss_cont
  · exact ss_if (L.T X c C _) (L.B X c C hx _) (L.B X c C hx _)
  · rename_i tg iter body els p
    split
    · split
      · exact ss_no
      · rename_i hs
        have hs' : isSetD iter = false := by simpa using hs
        split
        · rename_i g hg
          split
          · rename_i mi hi
            split
            · rename_i ht
              have : ∃ ts k p, tg = .Tuple ts k p := by
                cases tg <;> first | (cases ht; done) | exact ⟨_, _, _, rfl⟩
              obtain ⟨ts, k, p, rfl⟩ := this
              exact ss_for hp C.calm (cIw_ok L C hi) (cG_tup L C hg) (L.B X c C hx _) (folded_of hs')
            · exact ss_no
          · exact ss_for hp C.calm (cI_ok L C iter) (cG_ok L C hg) (L.B X c C hx _) (folded_of hs')
        · exact ss_no
    · exact ss_no
  · split
    · exact ss_while hp (L.T X c C _) (L.B X c C hx _)
    · exact ss_no
  · exact ss_no
theorem cB_ok (L : LvOk l) (C : CtxOk X c) (hx : X.xe = fun _ _ => False) : ∀ ss : List Stmt, SSs X c.ro ss (cB l c ss)
  | [] => sss_nil
  | [s] => sss_one (cS_ok L C hx s)
  | s :: s' :: ss => sss_cons (cS_ok L C hx s) (cB_ok L C hx (s' :: ss))
end
theorem lvS_ok {l : Lv} (L : LvOk l) : LvOk (lvS l) := ⟨fun X c C e => cE_ok L C e, fun X c C e => cT_ok L C e, fun X c C hx ss => cB_ok L C hx ss⟩
theorem lv_ok : ∀ n, LvOk (lv n)
  | 0 => lv0_ok
  | n + 1 => lvS_ok (lv_ok n)

/-! ### the defs of a program -/
/-- what the head says of a def -/
structure DfOk (K : PySem.W.Frag) (mg : Str → Option Value) (d : DR) : Prop where
  ex : ∃ (f : Addr) (fd : FuncData), mg d.name = some (.ref f) ∧ Fun K d.name d.name d.st f fd ∧ Binds K fd d.ps [] ∧ ∀ ks ∈ d.kws, KwB K fd d.ps ks (kwPm d.ps ks)
  scope : FnScope d.N d.ps (defScope d.st)
  ro : ∀ i ∈ d.ro, i < d.ps.length
section
variable {P : Program} {w : World} {K : PySem.W.Frag} {mg : Str → Option Value} {base : Heap} {lvl : Nat} {ds : List DR} {bl : Str → Bool}
theorem findD_mem {x : Str} : ∀ {ds : List DR} {d : DR}, findD x ds = some d → d ∈ ds ∧ d.name = x
  | [], _, h => by cases h
  | d :: ds, d', h => by
    unfold findD at h
    split at h
    · rename_i e; cases h; exact ⟨by simp, e⟩
    · obtain ⟨a, b⟩ := findD_mem h
      exact ⟨List.mem_cons_of_mem _ a, b⟩
/-- each def keeps to its meaning -/
theorem envD_ok (hd : ∀ d ∈ ds, DfOk K mg d) (hb : ∀ x, bl x = true → mg x = none) : ∀ (n : Nat) (d : DR), d ∈ ds → ∀ (f : Addr) (fd : FuncData), mg d.name = some (.ref f) → Fun K d.name d.name d.st f fd →
    FnG P w K mg base (n + 1) f fd d.ps (spM K (dm lvl d (envD lvl ds bl n) bl))
  | n, d, hm, f, fd, hf, Fn => by
    have D := hd d hm
    refine fnG_ok Fn D.scope D.ro fun cdv A outer s H E hr hgd => ?_
    refine (lv_ok lvl).B (cxOf CX0 P w K mg base d.N d.name (defScope d.st) f cdv A outer s H E).nox (cOf d (envD lvl ds bl n) bl) ⟨rfl, rfl, D.scope.kind, D.scope.nd, rfl, fun _ _ => rfl, hgd, ?_, hb, fun x di hx => ?_⟩ rfl (defBody d.st)
    · have := hr.un
      show (A.deeper _).units + 100 < cLine
      omega
    · cases n with
      | zero => cases hx
      | succ m =>
        have hx : envD lvl ds bl (m + 1) x = some di := hx
        unfold envD at hx
        split at hx
        · rename_i d' hd'
          cases hx
          obtain ⟨hm', rfl⟩ := findD_mem hd'
          obtain ⟨f', fd', h1, h2, h3, h4⟩ := (hd d' hm').ex
          refine ⟨m + 1, f', fd', envD_ok hd hb m d' hm' f' fd' h1 h2, hr, h1, h2.kp, h3, fun ks pm hk => ?_⟩
          simp only [DR.kw] at hk
          split at hk
          · rename_i hin
            cases hk
            exact h4 ks hin
          · cases hk
        · cases hx
end
end Rf

/-! Rj0: names for the parts of readings. -/
namespace Rf
open PySem PySem.Spec PyProof.Rows L2
abbrev mYes : MT := fun fm => some (true, fm)
abbrev mIndex (mo : ME) (ma : MA) : ME := fun fm => match mMt "tuple" (fIdx true) mo ma fm with
  | some r => some r
  | none => mMt "list" (fIdx false) mo ma fm
end Rf

/-! Rk1: small data: its text fits. -/
namespace Rf
open PySem PySem.Spec PyProof.Rows L2
mutual
def sz : PyData → Nat
  | .none => 10
  | .bool _ => 10
  | .int _ => 60
  | .str s => 10 * s.length + 10
  | .list xs => szA xs + 10
  | .tuple xs => szA xs + 10
  | .dict _ => 10
def szA : List PyData → Nat
  | [] => 0
  | x :: xs => sz x + 2 + szA xs
end
theorem szA_nil : szA [] = 0 := by simp [szA]
theorem szA_cons (x : PyData) (xs : List PyData) : szA (x :: xs) = sz x + 2 + szA xs := by simp [szA]
theorem szA_app : ∀ xs ys : List PyData, szA (xs ++ ys) = szA xs + szA ys
  | [], ys => by simp [szA_nil]
  | x :: xs, ys => by rw [List.cons_append, szA_cons, szA_cons, szA_app xs ys]; omega
theorem szA_rev : ∀ xs : List PyData, szA xs.reverse = szA xs
  | [] => rfl
  | x :: xs => by rw [List.reverse_cons, szA_app, szA_rev xs, szA_cons, szA_cons, szA_nil]; omega
theorem szA_take (n : Nat) (xs : List PyData) : szA (xs.take n) ≤ szA xs := by
  have h := szA_app (xs.take n) (xs.drop n); rw [List.take_append_drop] at h; omega
theorem szA_drop (n : Nat) (xs : List PyData) : szA (xs.drop n) ≤ szA xs := by
  have h := szA_app (xs.take n) (xs.drop n); rw [List.take_append_drop] at h; omega
theorem szA_mem {x : PyData} : ∀ {xs : List PyData}, x ∈ xs → sz x + 2 ≤ szA xs
  | y :: ys, h => by
    rw [szA_cons]
    rcases List.mem_cons.1 h with h | h
    · subst h; omega
    · have := szA_mem h; omega
theorem szA_erase : ∀ (xs : List PyData) (n : Nat), szA (xs.eraseIdx n) ≤ szA xs
  | [], n => by simp
  | x :: xs, 0 => by rw [List.eraseIdx_cons_zero, szA_cons]; omega
  | x :: xs, n + 1 => by rw [List.eraseIdx_cons_succ, szA_cons, szA_cons]; have := szA_erase xs n; omega
theorem szA_set (d : PyData) : ∀ (xs : List PyData) (n : Nat) (e : PyData), xs[n]? = some e → szA (xs.set n d) + sz e = szA xs + sz d
  | [], n, e, h => by simp at h
  | x :: xs, 0, e, h => by simp at h; subst h; rw [List.set_cons_zero, szA_cons, szA_cons]; omega
  | x :: xs, n + 1, e, h => by rw [List.set_cons_succ, szA_cons, szA_cons]; have := szA_set d xs n e (by simpa using h); omega

/-- lists of at most l things, nested h deep, whole numbers below b -/
def Ok (l b : Nat) : Nat → PyData → Prop
  | _, .none => True
  | _, .bool _ => True
  | _, .int i => i.natAbs < b
  | _, .str s => PyData.strOk s = true ∧ s.length ≤ 100
  | h + 1, .list ds => ds.length ≤ l ∧ ∀ x ∈ ds, Ok l b h x
  | h + 1, .tuple ds => ds.length ≤ l ∧ ∀ x ∈ ds, Ok l b h x
  | _, _ => False
theorem Ok.mono {l l' b b' : Nat} (hl : l ≤ l') (hb : b ≤ b') : ∀ {h h' : Nat} {d : PyData}, h ≤ h' → Ok l b h d → Ok l' b' h' d
  | _, _, .none, _, _ => by simp [Ok]
  | _, _, .bool _, _, _ => by simp [Ok]
  | _, _, .int i, _, o => by simp [Ok] at o ⊢; omega
  | _, _, .str s, _, o => by simpa [Ok] using o
  | 0, _, .list ds, _, o => by simp [Ok] at o
  | 0, _, .tuple ds, _, o => by simp [Ok] at o
  | 0, _, .dict _, _, o => by simp [Ok] at o
  | _ + 1, _, .dict _, _, o => by simp [Ok] at o
  | h + 1, 0, .list ds, e, _ => by omega
  | h + 1, 0, .tuple ds, e, _ => by omega
  | h + 1, h' + 1, .list ds, e, o => by
    simp [Ok] at o ⊢
    exact ⟨by omega, fun x m => Ok.mono hl hb (by omega) (o.2 x m)⟩
  | h + 1, h' + 1, .tuple ds, e, o => by
    simp [Ok] at o ⊢
    exact ⟨by omega, fun x m => Ok.mono hl hb (by omega) (o.2 x m)⟩
theorem depthAll_le {n : Nat} : ∀ {ds : List PyData}, (∀ x ∈ ds, PyData.depth x ≤ n) → PyData.depthAll ds ≤ n
  | [], _ => by simp [PyData.depthAll]
  | d :: ds, h => by
    simp only [PyData.depthAll]
    exact Nat.max_le.2 ⟨h d (by simp), depthAll_le fun x m => h x (by simp [m])⟩
theorem canLayAll_of {ds : List PyData} (h : ∀ x ∈ ds, PyData.canLay0 x = true) : PyData.canLayAll0 ds = true := by
  induction ds with
  | nil => simp [PyData.canLayAll0]
  | cons d ds ih => simp only [PyData.canLayAll0, h d (by simp), ih fun x m => h x (by simp [m]), Bool.and_self]
theorem showAll_of {ds : List PyData} (h : ∀ x ∈ ds, PyData.showable x = true) : PyData.showableAll ds = true := by
  induction ds with
  | nil => simp [PyData.showableAll]
  | cons d ds ih => simp only [PyData.showableAll, h d (by simp), ih fun x m => h x (by simp [m]), Bool.and_self]
theorem Ok.depth {l b : Nat} : ∀ {h : Nat} {d : PyData}, Ok l b h d → PyData.depth d ≤ h
  | _, .none, _ => by simp [PyData.depth]
  | _, .bool _, _ => by simp [PyData.depth]
  | _, .int i, _ => by simp [PyData.depth]
  | _, .str s, _ => by simp [PyData.depth]
  | 0, .list ds, o => by simp [Ok] at o
  | 0, .tuple ds, o => by simp [Ok] at o
  | 0, .dict _, o => by simp [Ok] at o
  | _ + 1, .dict _, o => by simp [Ok] at o
  | h + 1, .list ds, o => by simp [Ok] at o; simp only [PyData.depth]; have := depthAll_le fun x m => (o.2 x m).depth; omega
  | h + 1, .tuple ds, o => by simp [Ok] at o; simp only [PyData.depth]; have := depthAll_le fun x m => (o.2 x m).depth; omega
theorem Ok.lay {l b : Nat} : ∀ {h : Nat} {d : PyData}, Ok l b h d → PyData.canLay0 d = true
  | _, .none, _ => by simp [PyData.canLay0]
  | _, .bool _, _ => by simp [PyData.canLay0]
  | _, .int i, _ => by simp [PyData.canLay0]
  | _, .str s, o => by simp [Ok] at o; simp [PyData.canLay0, o.1]
  | 0, .list ds, o => by simp [Ok] at o
  | 0, .tuple ds, o => by simp [Ok] at o
  | 0, .dict _, o => by simp [Ok] at o
  | _ + 1, .dict _, o => by simp [Ok] at o
  | h + 1, .list ds, o => by simp [Ok] at o; simp only [PyData.canLay0]; exact canLayAll_of fun x m => (o.2 x m).lay
  | h + 1, .tuple ds, o => by simp [Ok] at o; simp only [PyData.canLay0]; exact canLayAll_of fun x m => (o.2 x m).lay
theorem Ok.show {l b : Nat} (hb : b ≤ 10 ^ 50) : ∀ {h : Nat} {d : PyData}, Ok l b h d → PyData.showable d = true
  | _, .none, _ => by simp [PyData.showable]
  | _, .bool _, _ => by simp [PyData.showable]
  | _, .int i, o => by
    simp only [Ok] at o
    simp only [PyData.showable, decide_eq_true_eq]
    by_cases z : i.natAbs = 0
    · rw [z]; decide
    · exact (Nat.log2_lt z).2 (Nat.lt_of_lt_of_le (Nat.lt_of_lt_of_le o hb) (Nat.le_trans (show 10 ^ 50 ≤ 2 ^ 200 by decide) (Nat.pow_le_pow_right (by decide) (by decide))))
  | _, .str s, o => by simp [PyData.showable]
  | 0, .list ds, o => by simp [Ok] at o
  | 0, .tuple ds, o => by simp [Ok] at o
  | 0, .dict _, o => by simp [Ok] at o
  | _ + 1, .dict _, o => by simp [Ok] at o
  | h + 1, .list ds, o => by simp [Ok] at o; simp only [PyData.showable]; exact showAll_of fun x m => (o.2 x m).show hb
  | h + 1, .tuple ds, o => by simp [Ok] at o; simp only [PyData.showable]; exact showAll_of fun x m => (o.2 x m).show hb
theorem Ok.shaped {l b h : Nat} {d : PyData} (o : Ok l b h d) (hh : h ≤ 60) : SeqAt.shaped d = true := by
  have := o.depth
  simp only [SeqAt.shaped, o.lay, Bool.true_and, decide_eq_true_eq]; omega
/-! length of texts -/
theorem reprChar_len (q c : Nat) (h : c < 0x110000) : (Builtin.Str.reprChar q c).length ≤ 10 := by
  have hd : (Nat.toDigits 16 c).length ≤ 8 := (Nat.length_toDigits_le_iff (by decide) (by decide)).2 (by omega)
  unfold Builtin.Str.reprChar
  repeat' split
  all_goals simp
  all_goals omega
theorem reprText_len (x : Str) (h : PyData.strOk x = true) : (reprText x).length ≤ 10 * x.length + 2 := by
  rw [← reprLen_eq]
  have h' : ∀ c ∈ x.cps.toList, c < 0x110000 := by
    intro c m
    simp only [PyData.strOk] at h
    rw [← Array.all_toList, List.all_eq_true] at h
    simpa using h c m
  rw [← Array.foldl_toList]
  show _ ≤ 10 * x.cps.size + 2
  rw [← Array.length_toList]
  generalize reprQuote x = q
  revert h'
  generalize x.cps.toList = l
  have key : ∀ (l : List Nat) (a : Nat), (∀ c ∈ l, c < 0x110000) → l.foldl (fun n c => n + (Builtin.Str.reprChar q c).length) a ≤ 10 * l.length + a := by
    intro l
    induction l with
    | nil => intro a _; simp
    | cons c r ih =>
      intro a h
      have h1 := ih (a + (Builtin.Str.reprChar q c).length) fun c m => h c (by simp [m])
      have h2 := reprChar_len q c (h c (by simp))
      simp only [List.foldl_cons, List.length_cons]
      omega
  exact fun h' => key l 2 h'
theorem listText_len (ts : List Str) : (listText ts).length ≤ piled ts + 2 := by
  unfold listText
  rw [strLen_append]
  have e1 : (("]" : String) : Str).length = 1 := rfl
  have e2 : (("[" : String) : Str).length = 1 := rfl
  rw [e1]
  cases ts with
  | nil => show (("[" : String) : Str).length + 1 ≤ _; rw [e2]; omega
  | cons t r =>
    have : textFrom 0 "[" (t :: r) = textFrom 1 (("[" : String) ++ ((if 0 > 0 then ", " else "" : String) : Str) ++ t) r := rfl
    rw [this, textFrom_length_pos r 1 _ (by decide), strLen_append, strLen_append, e2, piled_cons]
    have e3 : (((if 0 > 0 then ", " else "" : String)) : Str).length = 0 := rfl
    rw [e3]; omega
theorem tupleText_len (ts : List Str) : (tupleText ts).length ≤ piled ts + 3 := by
  unfold tupleText
  rw [strLen_append, strLen_append]
  have e1 : (("(" : String) : Str).length = 1 := rfl
  have e3 : (((if ts.length == 1 then ",)" else ")" : String) : Str)).length ≤ 2 := by split <;> decide
  rw [e1]
  by_cases h : ts = []
  · subst h
    have e4 : (Str.join ", " ([] : List Str)).length = 0 := rfl
    rw [e4]; simp [piled_nil] at *; omega
  · have := join_length_add ts h; omega
theorem piled_shown {n : Nat} : ∀ {ds : List PyData}, (∀ x ∈ ds, (PyData.shown x).length ≤ sz x) → piled (PyData.shownAll ds) ≤ szA ds
  | [], _ => by simp [PyData.shownAll, piled_nil]
  | d :: ds, h => by
    simp only [PyData.shownAll]
    rw [piled_cons, szA_cons]
    have := h d (by simp)
    have := piled_shown (n := n) (ds := ds) fun x m => h x (by simp [m])
    omega
theorem Ok.text {l b : Nat} (hb : b ≤ 10 ^ 50) : ∀ {h : Nat} {d : PyData}, Ok l b h d → (PyData.shown d).length ≤ sz d
  | _, .none, _ => by simp only [PyData.shown, sz]; decide
  | _, .bool t, _ => by simp only [PyData.shown, sz]; cases t <;> decide
  | _, .int i, o => by
    simp only [Ok] at o
    simp only [PyData.shown, sz]
    have := int_text_length_le10 (a := i) (k := 50) (by decide) (by omega)
    have e : (Str.ofString (toString i)).length = (toString i).length := PySem.ofString_length _
    rw [e]; omega
  | _, .str s, o => by
    simp only [Ok] at o
    simp only [PyData.shown, sz]
    have := reprText_len s o.1; omega
  | 0, .list ds, o => by simp [Ok] at o
  | 0, .tuple ds, o => by simp [Ok] at o
  | 0, .dict _, o => by simp [Ok] at o
  | _ + 1, .dict _, o => by simp [Ok] at o
  | h + 1, .list ds, o => by
    simp [Ok] at o; simp only [PyData.shown, sz]
    have h1 := listText_len (PyData.shownAll ds)
    have h2 := piled_shown (n := 0) fun x m => (o.2 x m).text hb
    omega
  | h + 1, .tuple ds, o => by
    simp [Ok] at o; simp only [PyData.shown, sz]
    have h1 := tupleText_len (PyData.shownAll ds)
    have h2 := piled_shown (n := 0) fun x m => (o.2 x m).text hb
    omega
theorem Ok.repr {l b h : Nat} {d : PyData} (o : Ok l b h d) (hb : b ≤ 10 ^ 50) (hh : h ≤ 60) (hz : sz d ≤ 10000000) : okRepr d = true := by
  have h1 := o.depth
  have h2 := o.text hb
  have h3 : sizeLine = 16777216 := rfl
  have h4 := o.show hb
  simp only [okRepr, h4, PyData.hasDict_of_canLay d o.lay, Bool.not_false, Bool.true_and, Bool.and_eq_true, decide_eq_true_eq]
  omega
theorem strOk_text (s : String) : PyData.strOk (Str.ofString s) = true := by
  rw [Str.ofString_eq_toList]
  simp only [PyData.strOk, List.all_toArray, List.all_map]
  rw [List.all_eq_true]
  intro c _
  have h := c.valid
  simp only [UInt32.isValidChar, Nat.isValidChar] at h
  have ht : c.toNat = c.val.toNat := rfl
  simp only [Function.comp, decide_eq_true_eq, ht]
  omega
theorem len_text {i : Int} {b : Nat} (o : i.natAbs < b) (hb : b ≤ 10 ^ 50) : (Str.ofString (toString i)).length ≤ 60 := by
  have := int_text_length_le10 (a := i) (k := 50) (by decide) (by omega)
  have e : (Str.ofString (toString i)).length = (toString i).length := PySem.ofString_length _
  omega
end Rf

/-! Rk2: ascending lists, tables, comprehensions. -/
namespace Rf
open PySem PySem.Spec PyProof.Rows L2
def asc : List Int → Bool
  | x :: y :: r => decide (x < y) && asc (y :: r)
  | _ => true
theorem asc_tail {x : Int} {r : List Int} (h : asc (x :: r) = true) : asc r = true := by
  cases r with
  | nil => rfl
  | cons y r => simp [asc] at h; exact h.2
theorem insU_asc {x : Int} : ∀ {l : List Int}, asc l = true → asc (insU x l) = true
  | [], _ => rfl
  | [y], _ => by
    simp only [insU]
    split
    · simp [asc]; assumption
    · split
      · rfl
      · simp [insU, asc]; omega
  | y :: z :: r, h => by
    simp only [insU]
    split
    · simp only [asc, Bool.and_eq_true, decide_eq_true_eq] at h ⊢; exact ⟨by assumption, h⟩
    · split
      · exact h
      · have ih := insU_asc (x := x) (l := z :: r) (asc_tail h)
        simp only [asc, Bool.and_eq_true, decide_eq_true_eq] at h
        simp only [insU] at ih ⊢
        split
        · rename_i hz; rw [if_pos hz] at ih; simp only [asc, Bool.and_eq_true, decide_eq_true_eq] at ih ⊢; exact ⟨by omega, ih⟩
        · rename_i hz; rw [if_neg hz] at ih
          split
          · simp only [asc, Bool.and_eq_true, decide_eq_true_eq]; exact h
          · rename_i hq; rw [if_neg hq] at ih; simp only [asc, Bool.and_eq_true, decide_eq_true_eq]; exact ⟨h.1, ih⟩
theorem sortU_asc : ∀ l : List Int, asc (sortU l) = true
  | [] => rfl
  | x :: r => by show asc (insU x (sortU r)) = true; exact insU_asc (sortU_asc r)
theorem sortU_of_asc : ∀ {l : List Int}, asc l = true → sortU l = l
  | [], _ => rfl
  | [x], _ => rfl
  | x :: y :: r, h => by
    show insU x (sortU (y :: r)) = _
    rw [sortU_of_asc (asc_tail h)]
    simp only [asc, Bool.and_eq_true, decide_eq_true_eq] at h
    simp only [insU]; rw [if_pos h.1]
theorem sortU_iff (l : List Int) : decide (l = sortU l) = asc l := by
  by_cases h : asc l = true
  · rw [h, sortU_of_asc h]; simp
  · have : ¬ l = sortU l := fun e => h (by rw [e]; exact sortU_asc l)
    simp only [this, decide_false]; revert h; cases asc l <;> simp
theorem eqvAll_ints : ∀ a b : List Int, PyData.eqvAll (a.map .int) (b.map .int) = decide (a = b)
  | [], [] => by simp [PyData.eqvAll]
  | [], _ :: _ => by simp [PyData.eqvAll]
  | _ :: _, [] => by simp [PyData.eqvAll]
  | x :: a, y :: b => by
    simp only [List.map_cons, PyData.eqvAll, PyData.eqv, eqvAll_ints a b, List.cons.injEq, Bool.decide_and]
    rfl
theorem intsD_map (l : List Int) : intsD (l.map .int) = some l := by
  induction l with
  | nil => rfl
  | cons x l ih => simp [intsD, ih]
theorem boolsD_map {α : Type} (f : α → Bool) (l : List α) : boolsD (l.map fun x => .bool (f x)) = some (l.map f) := by
  induction l with
  | nil => rfl
  | cons x l ih => simp [boolsD, ih]
theorem shaped_ints (l : List Int) : SeqAt.shaped (.list (l.map .int)) = true := by
  have h : Ok l.length ((l.map Int.natAbs).sum + 1) 1 (.list (l.map .int)) := by
    refine ⟨by simp, fun x m => ?_⟩
    obtain ⟨i, hi, rfl⟩ := List.mem_map.1 m
    show i.natAbs < _
    have : i.natAbs ≤ (l.map Int.natAbs).sum := by
      clear m
      induction l with
      | nil => simp at hi
      | cons y l ih =>
        rcases List.mem_cons.1 hi with h | h
        · subst h; simp
        · have := ih h; simp; omega
    omega
  exact h.shaped (by omega)
/-! tables of classes -/
theorem kb_int_int : kitB "int" "int" = some true := by decide +kernel
theorem kb_bool_int : kitB "bool" "int" = some true := by decide +kernel
theorem kb_none_int : kitB "NoneType" "int" = some false := by decide +kernel
theorem kb_str_int : kitB "str" "int" = some false := by decide +kernel
theorem kb_list_int : kitB "list" "int" = some false := by decide +kernel
theorem kb_tuple_int : kitB "tuple" "int" = some false := by decide +kernel
theorem kb_int_bool : kitB "int" "bool" = some false := by decide +kernel
theorem kb_bool_bool : kitB "bool" "bool" = some true := by decide +kernel
theorem kb_none_bool : kitB "NoneType" "bool" = some false := by decide +kernel
theorem kb_str_bool : kitB "str" "bool" = some false := by decide +kernel
theorem kb_list_bool : kitB "list" "bool" = some false := by decide +kernel
theorem kb_tuple_bool : kitB "tuple" "bool" = some false := by decide +kernel
theorem kb_int_list : kitB "int" "list" = some false := by decide +kernel
theorem kb_bool_list : kitB "bool" "list" = some false := by decide +kernel
theorem kb_none_list : kitB "NoneType" "list" = some false := by decide +kernel
theorem kb_str_list : kitB "str" "list" = some false := by decide +kernel
theorem kb_list_list : kitB "list" "list" = some true := by decide +kernel
theorem kb_tuple_list : kitB "tuple" "list" = some false := by decide +kernel
theorem kb_int_tuple : kitB "int" "tuple" = some false := by decide +kernel
theorem kb_bool_tuple : kitB "bool" "tuple" = some false := by decide +kernel
theorem kb_none_tuple : kitB "NoneType" "tuple" = some false := by decide +kernel
theorem kb_str_tuple : kitB "str" "tuple" = some false := by decide +kernel
theorem kb_list_tuple : kitB "list" "tuple" = some false := by decide +kernel
theorem kb_tuple_tuple : kitB "tuple" "tuple" = some true := by decide +kernel
theorem kb_int_str : kitB "int" "str" = some false := by decide +kernel
theorem kb_bool_str : kitB "bool" "str" = some false := by decide +kernel
theorem kb_none_str : kitB "NoneType" "str" = some false := by decide +kernel
theorem kb_str_str : kitB "str" "str" = some true := by decide +kernel
theorem kb_list_str : kitB "list" "str" = some false := by decide +kernel
theorem kb_tuple_str : kitB "tuple" "str" = some false := by decide +kernel
def plainD : PyData → Bool
  | .dict _ => false
  | _ => true
def tInt : PyData → Bool
  | .bool _ => true
  | .int _ => true
  | _ => false
def tBool : PyData → Bool
  | .bool _ => true
  | _ => false
def tList : PyData → Bool
  | .list _ => true
  | _ => false
def tTuple : PyData → Bool
  | .tuple _ => true
  | _ => false
theorem any_int {d : PyData} (h : plainD d = true) : isAny d ["int"] = some (tInt d) := by
  cases d <;> simp [plainD] at h <;> simp only [isAny, isTy, tInt, kb_int_int, kb_bool_int, kb_none_int, kb_str_int, kb_list_int, kb_tuple_int]
theorem any_bool {d : PyData} (h : plainD d = true) : isAny d ["bool"] = some (tBool d) := by
  cases d <;> simp [plainD] at h <;> simp only [isAny, isTy, tBool, kb_int_bool, kb_bool_bool, kb_none_bool, kb_str_bool, kb_list_bool, kb_tuple_bool]
theorem any_list {d : PyData} (h : plainD d = true) : isAny d ["list"] = some (tList d) := by
  cases d <;> simp [plainD] at h <;> simp only [isAny, isTy, tList, kb_int_list, kb_bool_list, kb_none_list, kb_str_list, kb_list_list, kb_tuple_list]
theorem any_tuple {d : PyData} (h : plainD d = true) : isAny d ["tuple"] = some (tTuple d) := by
  cases d <;> simp [plainD] at h <;> simp only [isAny, isTy, tTuple, kb_int_tuple, kb_bool_tuple, kb_none_tuple, kb_str_tuple, kb_list_tuple, kb_tuple_tuple]
theorem any_seq {d : PyData} (h : plainD d = true) : isAny d ["list", "tuple"] = some (tList d || tTuple d) := by
  cases d <;> simp [plainD] at h <;> simp only [isAny, isTy, tTuple, tList, kb_int_tuple, kb_bool_tuple, kb_none_tuple, kb_str_tuple, kb_list_tuple, kb_tuple_tuple, kb_int_list, kb_bool_list, kb_none_list, kb_str_list, kb_list_list, kb_tuple_list, Bool.or_true, Bool.or_false, Bool.true_or, Bool.false_or]
theorem Ok.plain {l b h : Nat} {d : PyData} (o : Ok l b h d) : plainD d = true := by
  cases d with
  | dict _ => cases h <;> simp [Ok] at o
  | _ => rfl
theorem ia_none_int : isAny .none ["int"] = some false := by simp only [isAny, isTy, kb_none_int]
theorem ia_none_bool : isAny .none ["bool"] = some false := by simp only [isAny, isTy, kb_none_bool]
theorem ia_none_list : isAny .none ["list"] = some false := by simp only [isAny, isTy, kb_none_list]
theorem ia_none_tuple : isAny .none ["tuple"] = some false := by simp only [isAny, isTy, kb_none_tuple]
theorem ia_none_str : isAny .none ["str"] = some false := by simp only [isAny, isTy, kb_none_str]
theorem ia_none_seq : isAny .none ["list", "tuple"] = some false := by simp only [isAny, isTy, kb_none_list, kb_none_tuple]
theorem ia_bool_int (b : Bool) : isAny (.bool b) ["int"] = some true := by simp only [isAny, isTy, kb_bool_int]
theorem ia_bool_bool (b : Bool) : isAny (.bool b) ["bool"] = some true := by simp only [isAny, isTy, kb_bool_bool]
theorem ia_bool_list (b : Bool) : isAny (.bool b) ["list"] = some false := by simp only [isAny, isTy, kb_bool_list]
theorem ia_bool_tuple (b : Bool) : isAny (.bool b) ["tuple"] = some false := by simp only [isAny, isTy, kb_bool_tuple]
theorem ia_bool_str (b : Bool) : isAny (.bool b) ["str"] = some false := by simp only [isAny, isTy, kb_bool_str]
theorem ia_bool_seq (b : Bool) : isAny (.bool b) ["list", "tuple"] = some false := by simp only [isAny, isTy, kb_bool_list, kb_bool_tuple]
theorem ia_int_int (i : Int) : isAny (.int i) ["int"] = some true := by simp only [isAny, isTy, kb_int_int]
theorem ia_int_bool (i : Int) : isAny (.int i) ["bool"] = some false := by simp only [isAny, isTy, kb_int_bool]
theorem ia_int_list (i : Int) : isAny (.int i) ["list"] = some false := by simp only [isAny, isTy, kb_int_list]
theorem ia_int_tuple (i : Int) : isAny (.int i) ["tuple"] = some false := by simp only [isAny, isTy, kb_int_tuple]
theorem ia_int_str (i : Int) : isAny (.int i) ["str"] = some false := by simp only [isAny, isTy, kb_int_str]
theorem ia_int_seq (i : Int) : isAny (.int i) ["list", "tuple"] = some false := by simp only [isAny, isTy, kb_int_list, kb_int_tuple]
theorem ia_str_int (s : Str) : isAny (.str s) ["int"] = some false := by simp only [isAny, isTy, kb_str_int]
theorem ia_str_bool (s : Str) : isAny (.str s) ["bool"] = some false := by simp only [isAny, isTy, kb_str_bool]
theorem ia_str_list (s : Str) : isAny (.str s) ["list"] = some false := by simp only [isAny, isTy, kb_str_list]
theorem ia_str_tuple (s : Str) : isAny (.str s) ["tuple"] = some false := by simp only [isAny, isTy, kb_str_tuple]
theorem ia_str_str (s : Str) : isAny (.str s) ["str"] = some true := by simp only [isAny, isTy, kb_str_str]
theorem ia_str_seq (s : Str) : isAny (.str s) ["list", "tuple"] = some false := by simp only [isAny, isTy, kb_str_list, kb_str_tuple]
theorem ia_list_int (xs : List PyData) : isAny (.list xs) ["int"] = some false := by simp only [isAny, isTy, kb_list_int]
theorem ia_list_bool (xs : List PyData) : isAny (.list xs) ["bool"] = some false := by simp only [isAny, isTy, kb_list_bool]
theorem ia_list_list (xs : List PyData) : isAny (.list xs) ["list"] = some true := by simp only [isAny, isTy, kb_list_list]
theorem ia_list_tuple (xs : List PyData) : isAny (.list xs) ["tuple"] = some false := by simp only [isAny, isTy, kb_list_tuple]
theorem ia_list_str (xs : List PyData) : isAny (.list xs) ["str"] = some false := by simp only [isAny, isTy, kb_list_str]
theorem ia_list_seq (xs : List PyData) : isAny (.list xs) ["list", "tuple"] = some true := by simp only [isAny, isTy, kb_list_list, kb_list_tuple]
theorem ia_tuple_int (xs : List PyData) : isAny (.tuple xs) ["int"] = some false := by simp only [isAny, isTy, kb_tuple_int]
theorem ia_tuple_bool (xs : List PyData) : isAny (.tuple xs) ["bool"] = some false := by simp only [isAny, isTy, kb_tuple_bool]
theorem ia_tuple_list (xs : List PyData) : isAny (.tuple xs) ["list"] = some false := by simp only [isAny, isTy, kb_tuple_list]
theorem ia_tuple_tuple (xs : List PyData) : isAny (.tuple xs) ["tuple"] = some true := by simp only [isAny, isTy, kb_tuple_tuple]
theorem ia_tuple_str (xs : List PyData) : isAny (.tuple xs) ["str"] = some false := by simp only [isAny, isTy, kb_tuple_str]
theorem ia_tuple_seq (xs : List PyData) : isAny (.tuple xs) ["list", "tuple"] = some true := by simp only [isAny, isTy, kb_tuple_list, kb_tuple_tuple]
/-! comprehensions -/
theorem compM_map {g : MG} {me : ME} {vs : List Nat} (f : PyData → PyData) (fm : Fm) : ∀ (ds acc : List PyData), (∀ d ∈ ds, ∃ fm1 v fm2 fm3, g d fm = some fm1 ∧ me fm1 = some (v, fm2) ∧ frz v fm2 = some (f d, fm3) ∧ wipeF fm3 vs = fm) → acc.length + ds.length ≤ sizeLine →
    compM g mYes me vs ds fm acc = some (acc ++ ds.map f, fm)
  | [], acc, _, _ => by simp [compM]
  | d :: ds, acc, h, hs => by
    obtain ⟨fm1, v, fm2, fm3, h1, h2, h3, h4⟩ := h d (by simp)
    have h5 : acc.length < sizeLine := by simp at hs; omega
    have ih := compM_map (g := g) (me := me) (vs := vs) f fm ds (acc ++ [f d]) (fun e m => h e (by simp [m])) (by simp at hs ⊢; omega)
    simp only [compM, h1, mYes, h2, h3, h4, if_pos h5, ih, List.map_cons, List.append_assoc, List.cons_append, List.nil_append]
/-- with a state that the steps lead on -/
theorem compM_inv {g : MG} {me : ME} {vs : List Nat} (I : Nat → Fm → Prop) (P : PyData → Prop) : ∀ (ds acc : List PyData) (k : Nat) (fm : Fm), (∀ d ∈ ds, ∀ k fm, I k fm → ∃ fm1 v fm2 r fm3, g d fm = some fm1 ∧ me fm1 = some (v, fm2) ∧ frz v fm2 = some (r, fm3) ∧ P r ∧ I (k + 1) (wipeF fm3 vs)) → I k fm → acc.length + ds.length ≤ sizeLine → (∀ x ∈ acc, P x) →
    ∃ out fm', compM g mYes me vs ds fm acc = some (out, fm') ∧ out.length = acc.length + ds.length ∧ (∀ x ∈ out, P x) ∧ I (k + ds.length) fm'
  | [], acc, k, fm, _, i, _, p => ⟨acc, fm, by simp [compM], by simp, p, by simpa using i⟩
  | d :: ds, acc, k, fm, h, i, hs, p => by
    obtain ⟨fm1, v, fm2, r, fm3, h1, h2, h3, h4, h5⟩ := h d (by simp) k fm i
    have h6 : acc.length < sizeLine := by simp at hs; omega
    obtain ⟨out, fm', e1, e2, e3, e4⟩ := compM_inv (g := g) (me := me) (vs := vs) I P ds (acc ++ [r]) (k + 1) (wipeF fm3 vs) (fun e m => h e (by simp [m])) h5 (by simp at hs ⊢; omega) (fun x m => by
      rcases List.mem_append.1 m with m | m
      · exact p x m
      · simp at m; subst m; exact h4)
    refine ⟨out, fm', ?_, ?_, e3, ?_⟩
    · simp only [compM, h1, mYes, h2, h3, if_pos h6, e1]
    · simp at e2 ⊢; omega
    · have : k + (d :: ds).length = k + 1 + ds.length := by simp; omega
      rw [this]; exact e4
/-- loops with a state -/
theorem loopM_inv {g : MG} {m : MS} (I : Nat → Fm → Prop) : ∀ (ds : List PyData) (k : Nat) (fm : Fm), (∀ d ∈ ds, ∀ k fm, I k fm → ∃ fm1 fm2, g d fm = some fm1 ∧ m fm1 = some (.nx, fm2) ∧ I (k + 1) fm2) → I k fm → ∃ fm', loopM g m ds fm = some (.nx, fm') ∧ I (k + ds.length) fm'
  | [], k, fm, _, i => ⟨fm, by simp [loopM], by simpa using i⟩
  | d :: ds, k, fm, h, i => by
    obtain ⟨fm1, fm2, h1, h2, h3⟩ := h d (by simp) k fm i
    obtain ⟨fm', e1, e2⟩ := loopM_inv (g := g) (m := m) I ds (k + 1) fm2 (fun e m => h e (by simp [m])) h3
    refine ⟨fm', by simp only [loopM, h1, h2, e1], ?_⟩
    have : k + (d :: ds).length = k + 1 + ds.length := by simp; omega
    rw [this]; exact e2
end Rf

/-! Rk3: the meanings, applied. -/
namespace Rf
open PySem PySem.Spec PyProof.Rows L2
theorem mVar_ap (i : Nat) (fm : Fm) : mVar i fm = (match fm[i]? with
  | some (some (.dat d)) => some (.dat d, fm)
  | some (some (.own _)) => some (.bor i, fm)
  | _ => none) := rfl
theorem mLit_ap (d : PyData) (fm : Fm) : mLit d fm = some (.dat d, fm) := rfl
theorem m2_ap (f : F2) (ma mb : ME) (fm : Fm) : m2 f ma mb fm = (match ma fm with
  | some (va, fm1) => match mb fm1 with
    | some (vb, fm2) => f va vb fm2
    | none => none
  | none => none) := rfl
theorem mB_ap (m : ME) (fm : Fm) : mB m fm = (match m fm with
  | some (.dat (.bool b), fm1) => some (b, fm1)
  | _ => none) := rfl
theorem mAndT_ap (m n : MT) (fm : Fm) : mAndT m n fm = (match m fm with
  | some (true, fm1) => n fm1
  | some (false, fm1) => some (false, fm1)
  | none => none) := rfl
theorem mOrT_ap (m n : MT) (fm : Fm) : mOrT m n fm = (match m fm with
  | some (false, fm1) => n fm1
  | some (true, fm1) => some (true, fm1)
  | none => none) := rfl
theorem mNotT_ap (m : MT) (fm : Fm) : mNotT m fm = (match m fm with
  | some (k, fm1) => some (!k, fm1)
  | none => none) := rfl
theorem mAndV_ap (ma mb : ME) (fm : Fm) : mAndV ma mb fm = (match ma fm with
  | some (.dat (.bool true), fm1) => mb fm1
  | some (.dat (.bool false), fm1) => some (.dat (.bool false), fm1)
  | _ => none) := rfl
theorem mOrV_ap (ma mb : ME) (fm : Fm) : mOrV ma mb fm = (match ma fm with
  | some (.dat (.bool false), fm1) => mb fm1
  | some (.dat (.bool true), fm1) => some (.dat (.bool true), fm1)
  | _ => none) := rfl
theorem mNotV_ap (ma : ME) (fm : Fm) : mNotV ma fm = (match ma fm with
  | some (.dat (.bool k), fm1) => some (.dat (.bool (!k)), fm1)
  | _ => none) := rfl
theorem mIfE_ap (mc : MT) (ma mb : ME) (fm : Fm) : mIfE mc ma mb fm = (match mc fm with
  | some (true, fm1) => ma fm1
  | some (false, fm1) => mb fm1
  | none => none) := rfl
theorem mNil_ap (fm : Fm) : mNil  fm = some ([], fm) := rfl
theorem mCons_ap (ma : ME) (mr : MA) (fm : Fm) : mCons ma mr fm = (match ma fm with
  | some (v, fm1) => match mr fm1 with
    | some (vs, fm2) => some (v :: vs, fm2)
    | none => none
  | none => none) := rfl
theorem mDisp_ap (mk : List PyData → SV) (m : MA) (fm : Fm) : mDisp mk m fm = (match m fm with
  | some (vs, fm1) => match frzAll vs fm1 with
    | some (ds, fm2) => if ds.length ≤ sizeLine then some (mk ds, fm2) else none
    | none => none
  | none => none) := rfl
theorem gSet_ap (i : Nat) (d : PyData) (fm : Fm) : gSet i d fm = some (fm.set i (some (.dat d))) := rfl
theorem gsNil_ap (ds : List PyData) (fm : Fm) : gsNil  ds fm = (match ds with
  | [] => some fm
  | _ => none) := rfl
theorem gsCons_ap (g : MG) (r : MGs) (ds : List PyData) (fm : Fm) : gsCons g r ds fm = (match ds with
  | d :: ds => match g d fm with
    | some fm1 => r ds fm1
    | none => none
  | [] => none) := rfl
theorem gTupD_ap (n : Nat) (r : MGs) (d : PyData) (fm : Fm) : gTupD n r d fm = (match d with
  | .tuple ds => if ds.length = n then r ds fm else none
  | _ => none) := rfl
theorem mSet_ap (i : Nat) (m : ME) (fm : Fm) : mSet i m fm = (match m fm with
  | some (v, fm1) => match sto i v fm1 with
    | some fm2 => some (.nx, fm2)
    | none => none
  | none => none) := rfl
theorem mAsg_ap (g : MG) (m : ME) (fm : Fm) : mAsg g m fm = (match m fm with
  | some (v, fm1) => match frz v fm1 with
    | some (d, fm2) => match g d fm2 with
      | some fm3 => some (.nx, fm3)
      | none => none
    | none => none
  | none => none) := rfl
theorem mPar_ap (is : List Nat) (m : MA) (fm : Fm) : mPar is m fm = (match m fm with
  | some (vs, fm1) => match resAll vs fm1 with
    | some (ws, fm2) => match stoAll is ws fm2 with
      | some fm3 => some (.nx, fm3)
      | none => none
    | none => none
  | none => none) := rfl
theorem mExpr_ap (m : ME) (fm : Fm) : mExpr m fm = (match m fm with
  | some (_, fm1) => some (.nx, fm1)
  | none => none) := rfl
theorem mRet_ap (m : ME) (fm : Fm) : mRet m fm = (match m fm with
  | some (v, fm1) => some (.rt v, fm1)
  | none => none) := rfl
theorem mRetN_ap (fm : Fm) : mRetN  fm = some (.rt (.dat .none), fm) := rfl
theorem mNext_ap (fm : Fm) : mNext  fm = some (.nx, fm) := rfl
theorem mBreak_ap (fm : Fm) : mBreak  fm = some (.bk, fm) := rfl
theorem mCont_ap (fm : Fm) : mCont  fm = some (.ct, fm) := rfl
theorem mSeq_ap (m n : MS) (fm : Fm) : mSeq m n fm = (match m fm with
  | some (.nx, fm1) => n fm1
  | r => r) := rfl
theorem mIf_ap (c : MT) (m n : MS) (fm : Fm) : mIf c m n fm = (match c fm with
  | some (true, fm1) => m fm1
  | some (false, fm1) => n fm1
  | none => none) := rfl
theorem iSeq_ap (m : ME) (fm : Fm) : iSeq m fm = (match m fm with
  | some (v, fm1) => match frz v fm1 with
    | some (.list ds, fm2) => some (ds, fm2)
    | some (.tuple ds, fm2) => some (ds, fm2)
    | _ => none
  | none => none) := rfl
theorem iRan_ap (m : MA) (fm : Fm) : iRan m fm = (match m fm with
  | some ([.dat (.int j)], fm1) => if -(2 ^ 62) ≤ j ∧ j < 2 ^ 62 then some (intsFrom 0 j.toNat, fm1) else none
  | _ => none) := rfl
theorem iZp_ap (m : MA) (fm : Fm) : iZp m fm = (match m fm with
  | some (vs, fm1) => match frzAll vs fm1 with
    | some ([.list ds, .list es], fm2) => some (zip2 ds es, fm2)
    | some ([.tuple ds, .tuple es], fm2) => some (zip2 ds es, fm2)
    | _ => none
  | _ => none) := rfl
theorem mFor_ap (mi : MI) (g : MG) (m : MS) (fm : Fm) : mFor mi g m fm = (match mi fm with
  | some (ds, fm1) => loopM g m ds fm1
  | none => none) := rfl
theorem mWhile_ap (n : Nat) (c : MT) (m : MS) (z0 : Fm) : mWhile n c m z0 = (whileM c m n) z0 := rfl
theorem mCall_ap (f : Dm) (ma : MA) (fm : Fm) : mCall f ma fm = (match ma fm with
  | none => none
  | some (vs, fm1) => match argsOf vs fm1 with
    | none => none
    | some as => if (bors vs).Nodup then (match f as with
      | some (.bor _, _) => none
      | some (r, outs) => some (r, wback vs outs fm1)
      | none => none) else none) := rfl
theorem mkD_ap (n N : Nat) (ro : List Nat) (m : MS) (as : List S0) : mkD n N ro m as = if as.length = n then (match m (as.map some ++ List.replicate (N - n) none) with
    | some (.rt v, fm1) => match retv as v fm1 with
      | some (r, fm2) => match outsFrom ro fm2 0 as with
        | some outs => some (r, outs)
        | none => none
      | none => none
    | some (.nx, fm1) => match outsFrom ro fm1 0 as with
      | some outs => some (.dat .none, outs)
      | none => none
    | _ => none) else none := rfl
theorem mLc_ap (n : Nat) (mi : MI) (g : MG) (mt : MT) (me : ME) (vs : List Nat) (fm : Fm) : mLc n mi g mt me vs fm = (match mi fm with
  | none => none
  | some (ds, fm1) => if fm.length ≤ n then (match compM g mt me vs ds (wipeF fm1 vs) [] with
    | none => none
    | some (acc, fm2) => match unwipe fm1 fm2 vs with
      | none => none
      | some fm3 => some (.fre (.lst acc), fm3)) else none) := rfl
theorem fI_ap (C : Int → Int → Bool) (g : Int → Int → PyData) (va : SV) (vb : SV) (fm : Fm) : fI C g va vb fm = (match peek va fm, peek vb fm with
  | some (.int i), some (.int j) => if C i j then some (.dat (g i j), fm) else none
  | _, _ => none) := rfl
theorem fAdd_ap (z0 : SV) (z1 : SV) (z2 : Fm) : fAdd  z0 z1 z2 = (fI cY fun i j => .int (i + j)) z0 z1 z2 := rfl
theorem fSub_ap (z0 : SV) (z1 : SV) (z2 : Fm) : fSub  z0 z1 z2 = (fI cY fun i j => .int (i - j)) z0 z1 z2 := rfl
theorem fMul_ap (z0 : SV) (z1 : SV) (z2 : Fm) : fMul  z0 z1 z2 = (fI cMul fun i j => .int (i * j)) z0 z1 z2 := rfl
theorem fMod_ap (z0 : SV) (z1 : SV) (z2 : Fm) : fMod  z0 z1 z2 = (fI cMod fun i j => .int (i % j)) z0 z1 z2 := rfl
theorem fDiv_ap (z0 : SV) (z1 : SV) (z2 : Fm) : fDiv  z0 z1 z2 = (fI cDiv fun i j => .int (i / j)) z0 z1 z2 := rfl
theorem fPow_ap (z0 : SV) (z1 : SV) (z2 : Fm) : fPow  z0 z1 z2 = (fI cPow fun i j => .int (i ^ j.toNat)) z0 z1 z2 := rfl
theorem fLt_ap (z0 : SV) (z1 : SV) (z2 : Fm) : fLt  z0 z1 z2 = (fI cY fun i j => .bool (decide (i < j))) z0 z1 z2 := rfl
theorem fLe_ap (z0 : SV) (z1 : SV) (z2 : Fm) : fLe  z0 z1 z2 = (fI cY fun i j => .bool (decide (i ≤ j))) z0 z1 z2 := rfl
theorem fGt_ap (z0 : SV) (z1 : SV) (z2 : Fm) : fGt  z0 z1 z2 = (fI cY fun i j => .bool (decide (i > j))) z0 z1 z2 := rfl
theorem fGe_ap (z0 : SV) (z1 : SV) (z2 : Fm) : fGe  z0 z1 z2 = (fI cY fun i j => .bool (decide (i ≥ j))) z0 z1 z2 := rfl
theorem fIsN_ap (va : SV) (vb : SV) (fm : Fm) : fIsN  va vb fm = (match peek va fm, peek vb fm with
  | some d, some .none => some (.dat (.bool (isNone d)), fm)
  | _, _ => none) := rfl
theorem fNotN_ap (va : SV) (vb : SV) (fm : Fm) : fNotN  va vb fm = (match peek va fm, peek vb fm with
  | some d, some .none => some (.dat (.bool (!isNone d)), fm)
  | _, _ => none) := rfl
theorem fIsB_ap (va : SV) (vb : SV) (fm : Fm) : fIsB  va vb fm = (match peek va fm, peek vb fm with
  | some (.bool a), some (.bool b) => some (.dat (.bool (decide (a = b))), fm)
  | _, _ => none) := rfl
theorem fIx_ap (va : SV) (vb : SV) (fm : Fm) : fIx  va vb fm = (match peek va fm, peek vb fm with
  | some (.list ds), some (.int i) => (atI ds i).map fun d => (.dat d, fm)
  | some (.tuple ds), some (.int i) => (atI ds i).map fun d => (.dat d, fm)
  | _, _ => none) := rfl
theorem fAddX_ap (va : SV) (vb : SV) (fm : Fm) : fAddX  va vb fm = (match peek va fm, peek vb fm with
  | some (.int i), some (.int j) => some (.dat (.int (i + j)), fm)
  | some (.list as), some (.list bs) => if as.length + bs.length ≤ sizeLine then some (.fre (.lst (as ++ bs)), fm) else none
  | some (.tuple as), some (.tuple bs) => if as.length + bs.length ≤ sizeLine then some (.dat (.tuple (as ++ bs)), fm) else none
  | some (.bool b), some (.int j) => some (.dat (.int (b2n b + j)), fm)
  | _, _ => none) := rfl
theorem fSubX_ap (va : SV) (vb : SV) (fm : Fm) : fSubX  va vb fm = (match peek va fm, peek vb fm with
  | some (.int i), some (.int j) => some (.dat (.int (i - j)), fm)
  | some (.bool b), some (.int j) => some (.dat (.int (b2n b - j)), fm)
  | some (.int i), some (.bool b) => some (.dat (.int (i - b2n b)), fm)
  | _, _ => none) := rfl
theorem fMulX_ap (va : SV) (vb : SV) (fm : Fm) : fMulX  va vb fm = (match peek va fm, peek vb fm with
  | some (.int i), some (.int j) => if cMul i j then some (.dat (.int (i * j)), fm) else none
  | some (.list _), some (.int k) => fMulL k va fm
  | _, _ => none) := rfl
theorem m1_ap (f : F1) (ma : ME) (fm : Fm) : m1 f ma fm = (match ma fm with
  | some (v, fm1) => f v fm1
  | none => none) := rfl
theorem fNeg_ap (va : SV) (fm : Fm) : fNeg  va fm = (match peek va fm with
  | some (.int i) => some (.dat (.int (-i)), fm)
  | _ => none) := rfl
theorem mB1_ap (f : FA) (ma : MA) (fm : Fm) : mB1 f ma fm = (match ma fm with
  | some (vs, fm1) => f vs fm1
  | none => none) := rfl
theorem fLen_ap (vs : List SV) (fm : Fm) : fLen  vs fm = (match vs with
  | [v] => match peek v fm with
    | some (.list ds) => some (.dat (.int ds.length), fm)
    | some (.tuple ds) => some (.dat (.int ds.length), fm)
    | _ => none
  | _ => none) := rfl
theorem fAbs_ap (vs : List SV) (fm : Fm) : fAbs  vs fm = (match vs with
  | [v] => match peek v fm with
    | some (.int i) => some (.dat (.int (if i < 0 then -i else i)), fm)
    | _ => none
  | _ => none) := rfl
theorem fInt_ap (vs : List SV) (fm : Fm) : fInt  vs fm = (match vs with
  | [v] => match peek v fm with
    | some (.int i) => some (.dat (.int i), fm)
    | some (.bool b) => some (.dat (.int (if b then 1 else 0)), fm)
    | _ => none
  | _ => none) := rfl
theorem fMin2_ap (vs : List SV) (fm : Fm) : fMin2  vs fm = (match vs with
  | [v, w] => match peek v fm, peek w fm with
    | some (.int i), some (.int j) => some (.dat (.int (if j < i then j else i)), fm)
    | _, _ => none
  | _ => none) := rfl
theorem fMax2_ap (vs : List SV) (fm : Fm) : fMax2  vs fm = (match vs with
  | [v, w] => match peek v fm, peek w fm with
    | some (.int i), some (.int j) => some (.dat (.int (if j > i then j else i)), fm)
    | _, _ => none
  | _ => none) := rfl
theorem fList_ap (vs : List SV) (fm : Fm) : fList  vs fm = (match vs with
  | [v] => match peek v fm with
    | some (.list ds) => some (.fre (.lst ds), fm)
    | some (.tuple ds) => some (.fre (.lst ds), fm)
    | _ => none
  | _ => none) := rfl
theorem fTuple_ap (vs : List SV) (fm : Fm) : fTuple  vs fm = (match vs with
  | [v] => match peek v fm with
    | some (.list ds) => some (.dat (.tuple ds), fm)
    | some (.tuple ds) => some (.dat (.tuple ds), fm)
    | _ => none
  | _ => none) := rfl
theorem fStr_ap (vs : List SV) (fm : Fm) : fStr  vs fm = (match vs with
  | [v] => match peek v fm with
    | some (.int i) => if i.natAbs.log2 < 1920 then some (.dat (.str (toString i)), fm) else none
    | some (.bool b) => some (.dat (.str (if b then "True" else "False")), fm)
    | _ => none
  | _ => none) := rfl
theorem mMt_ap (T : String) (f : FM) (mo : ME) (ma : MA) (fm : Fm) : mMt T f mo ma fm = (match mo fm with
  | some (o, fm1) => if tyD T o fm1 then (match ma fm1 with
    | some (vs, fm2) => f o vs fm2
    | none => none) else none
  | none => none) := rfl
theorem mMtZ_ap (T : String) (f : FZ) (mo : ME) (ma : MA) (fm : Fm) : mMtZ T f mo ma fm = (match mo fm with
  | some (o, fm1) => if tyD T o fm1 then (match ma fm1 with
    | some (vs, fm2) => match frzAll vs fm2 with
      | some (ds, fm3) => f o ds fm3
      | none => none
    | none => none) else none
  | none => none) := rfl
theorem fAppend_ap (o : SV) (ds : List PyData) (fm : Fm) : fAppend  o ds fm = (match o, ds with
  | .bor i, [d] => match fm[i]? with
    | some (some (.own (.lst xs))) => if xs.length < sizeLine then some (.dat .none, fm.set i (some (.own (.lst (xs ++ [d]))))) else none
    | _ => none
  | _, _ => none) := rfl
theorem fInsert_ap (o : SV) (ds : List PyData) (fm : Fm) : fInsert  o ds fm = (match o, ds with
  | .bor i, [.int k, d] => match fm[i]? with
    | some (some (.own (.lst xs))) => if xs.length < sizeLine ∧ 0 ≤ k ∧ k < 2 ^ 63 then some (.dat .none, fm.set i (some (.own (.lst (xs.take k.toNat ++ [d] ++ xs.drop k.toNat))))) else none
    | _ => none
  | _, _ => none) := rfl
theorem fPopAt_ap (o : SV) (vs : List SV) (fm : Fm) : fPopAt  o vs fm = (match o, vs with
  | .bor i, [w] => match fm[i]?, peek w fm with
    | some (some (.own (.lst xs))), some (.int k) => if -(2 ^ 63) ≤ k ∧ k < 2 ^ 63 then (match seqIndex? k xs.length with
      | some j => match xs[j]? with
        | some d => some (.dat d, fm.set i (some (.own (.lst (xs.eraseIdx j)))))
        | none => none
      | none => none) else none
    | _, _ => none
  | _, _ => none) := rfl
theorem oNone_ap (fm : Fm) : oNone  fm = some (none, fm) := rfl
theorem oSome_ap (m : ME) (fm : Fm) : oSome m fm = (match m fm with
  | some (.dat (.int i), fm1) => some (some i, fm1)
  | _ => none) := rfl
theorem mSl_ap (mo : ME) (ml mh : MO) (fm : Fm) : mSl mo ml mh fm = (match mo fm with
  | some (v, fm1) => match ml fm1 with
    | some (lo, fm2) => match mh fm2 with
      | some (hi, fm3) => match peek v fm3 with
        | some (.list ds) => some (.fre (.lst (cutD ds lo hi)), fm3)
        | some (.tuple ds) => some (.dat (.tuple (cutD ds lo hi)), fm3)
        | _ => none
      | none => none
    | none => none
  | none => none) := rfl
theorem gIx_ap (i : Nat) (mi : ME) (d : PyData) (fm : Fm) : gIx i mi d fm = (match fm[i]? with
  | some (some (.own _)) => match mi fm with
    | some (.dat (.int k), fm1) => match fm1[i]? with
      | some (some (.own (.lst ds))) => match ixN ds.length k with
        | some j => some (fm1.set i (some (.own (.lst (ds.set j d)))))
        | none => none
      | _ => none
    | _ => none
  | _ => none) := rfl
theorem mIsi_ap (Ts : List String) (m : ME) (fm : Fm) : mIsi Ts m fm = (match m fm with
  | some (v, fm1) => match peek v fm1 with
    | some d => match isAny d Ts with
      | some b => some (.dat (.bool b), fm1)
      | none => none
    | none => none
  | none => none) := rfl
theorem fEqX_ap (va : SV) (vb : SV) (fm : Fm) : fEqX  va vb fm = (match peek va fm, peek vb fm with
  | some (.str a), some (.str b) => some (.dat (.bool (decide (a = b))), fm)
  | some d, some e => if SeqAt.shaped d && SeqAt.shaped e then some (.dat (.bool (PyData.eqv d e)), fm) else none
  | _, _ => none) := rfl
theorem fNeX_ap (va : SV) (vb : SV) (fm : Fm) : fNeX  va vb fm = (match peek va fm, peek vb fm with
  | some (.str a), some (.str b) => some (.dat (.bool (!decide (a = b))), fm)
  | some d, some e => if SeqAt.shaped d && SeqAt.shaped e then some (.dat (.bool (!PyData.eqv d e)), fm) else none
  | _, _ => none) := rfl
theorem fAll_ap (vs : List SV) (fm : Fm) : fAll  vs fm = (match vs with
  | [v] => match peek v fm with
    | some (.list ds) => match boolsD ds with
      | some bs => some (.dat (.bool (bs.all id)), fm)
      | none => none
    | _ => none
  | _ => none) := rfl
theorem fAny_ap (vs : List SV) (fm : Fm) : fAny  vs fm = (match vs with
  | [v] => match peek v fm with
    | some (.list ds) => match boolsD ds with
      | some bs => some (.dat (.bool (bs.any id)), fm)
      | none => none
    | _ => none
  | _ => none) := rfl
theorem fSum_ap (vs : List SV) (fm : Fm) : fSum  vs fm = (match vs with
  | [v] => match peek v fm with
    | some (.list ds) => match intsD ds with
      | some bs => some (.dat (.int bs.sum), fm)
      | none => none
    | _ => none
  | _ => none) := rfl
theorem fSorted_ap (vs : List SV) (fm : Fm) : fSorted  vs fm = (match vs with
  | [v] => match peek v fm with
    | some (.list ds) => match intsD ds with
      | some bs => some (.fre (.lst ((sortI bs).map .int)), fm)
      | none => none
    | _ => none
  | _ => none) := rfl
theorem fBest_ap (g : Int → Int → Int) (vs : List SV) (fm : Fm) : fBest g vs fm = (match vs with
  | [v] => match peek v fm with
    | some d => match seqD d with
      | some ds => match intsD ds with
        | some (n :: ns) => some (.dat (.int (ns.foldl g n)), fm)
        | _ => none
      | none => none
    | none => none
  | _ => none) := rfl
theorem fIdx_ap (T : Bool) (o : SV) (vs : List SV) (fm : Fm) : fIdx T o vs fm = (match vs with
  | [w] => match peek o fm, peek w fm with
    | some d, some (.int k) => match d, T with
      | .tuple ds, true => (match intsD ds with
        | some ns => if k ∈ ns then some (.dat (.int (ns.idxOf k : Nat)), fm) else none
        | none => none)
      | .list ds, false => (match intsD ds with
        | some ns => if k ∈ ns then some (.dat (.int (ns.idxOf k : Nat)), fm) else none
        | none => none)
      | _, _ => none
    | _, _ => none
  | _ => none) := rfl
theorem fRepr_ap (vs : List SV) (fm : Fm) : fRepr  vs fm = (match vs with
  | [v] => match peek v fm with
    | some d => if okRepr d then some (.dat (.str d.shown), fm) else none
    | none => none
  | _ => none) := rfl
theorem mPermA_ap (pm : List Nat) (n : Nat) (m : MA) (fm : Fm) : mPermA pm n m fm = (match m fm with
  | some (vs, fm1) => if vs.length = n ∧ okPm pm n = true then some (permL pm vs, fm1) else none
  | none => none) := rfl
theorem fBack_ap (v : SV) (fm : Fm) : fBack  v fm = (match peek v fm with
  | some (.list ds) => some (.fre (.lst ds.reverse), fm)
  | some (.tuple ds) => some (.dat (.tuple ds.reverse), fm)
  | _ => none) := rfl
theorem gSplice_ap (i : Nat) (ml mh : MO) (d : PyData) (fm : Fm) : gSplice i ml mh d fm = (match d with
  | .list es => match fm[i]? with
    | some (some (.own _)) => match ml fm with
      | some (some a, fm1) => match mh fm1 with
        | some (some c, fm2) => match fm2[i]? with
          | some (some (.own (.lst xs))) => if 0 ≤ a ∧ a ≤ c ∧ xs.length + es.length ≤ sizeLine then some (fm2.set i (some (.own (.lst (xs.take a.toNat ++ es ++ xs.drop c.toNat))))) else none
          | _ => none
        | _ => none
      | _ => none
    | _ => none
  | _ => none) := rfl
theorem mSortSet_ap (m : ME) (fm : Fm) : mSortSet m fm = (match m fm with
  | some (v, fm1) => match peek v fm1 with
    | some (.tuple ds) => match intsD ds with
      | some ns => if ns.length < 64 then some (.fre (.lst ((sortU ns).map .int)), fm1) else none
      | none => none
    | _ => none
  | none => none) := rfl
theorem fMulY_ap (va : SV) (vb : SV) (fm : Fm) : fMulY  va vb fm = (match peek va fm, peek vb fm with
  | some (.tuple ds), some (.int k) => if ds ≠ [] ∧ 2 ≤ k ∧ k ≤ 1000 ∧ ds.length ≤ 1000 then some (.dat (.tuple (repD k ds)), fm) else none
  | _, _ => fMulX va vb fm) := rfl
theorem mTupRan_ap (ma : MA) (fm : Fm) : mTupRan ma fm = (match ma fm with
  | some ([.dat (.int a), .dat (.int b)], fm1) => if 0 ≤ a ∧ a ≤ b ∧ b < 100000 then some (.dat (.tuple (intsFrom a (b - a).toNat)), fm1) else none
  | _ => none) := rfl
theorem fIsX_ap (va : SV) (vb : SV) (fm : Fm) : fIsX  va vb fm = (match peek vb fm with
  | some .none => fIsN va vb fm
  | some (.bool _) => fIsB va vb fm
  | _ => none) := rfl
theorem mLst_ap (m : MA) (fm : Fm) : mLst m fm = mDisp (fun ds => .fre (.lst ds)) m fm := rfl
theorem mTup_ap (m : MA) (fm : Fm) : mTup m fm = mDisp (fun ds => .dat (.tuple ds)) m fm := rfl
theorem mYes_ap (fm : Fm) : mYes fm = some (true, fm) := rfl
theorem mIndex_ap (mo : ME) (ma : MA) (fm : Fm) : mIndex mo ma fm = (match mMt "tuple" (fIdx true) mo ma fm with
  | some r => some r
  | none => mMt "list" (fIdx false) mo ma fm) := rfl
end Rf

namespace Lk01
open PySem PySem.Spec PyProof.Rows L2 Rf
def topS (i : Nat) : Stmt := PySem.Challenge.pw_spindlefit_k01_shops_recognized.main.body.getD i (.Pass ⟨0, 0, 0, 0⟩)
def dis_number : DR := ⟨"is_number", ["thing"], [], [0], [], topS 1⟩
def dis_size : DR := ⟨"is_size", ["thing"], [], [0], [], topS 2⟩
def dis_pair : DR := ⟨"is_pair", ["thing"], [], [0], [], topS 3⟩
def dis_range : DR := ⟨"is_range", ["thing"], ["low", "high"], [0], [], topS 4⟩
def dis_ascending : DR := ⟨"is_ascending", ["numbers"], ["lesser", "greater"], [0], [], topS 5⟩
def dare_sizes : DR := ⟨"are_sizes", ["thing"], ["part"], [0], [], topS 6⟩
def dare_ranges : DR := ⟨"are_ranges", ["thing"], ["part"], [0], [], topS 7⟩
def dis_shop : DR := ⟨"is_shop", ["thing"], ["sizes", "ranges"], [0], [["thing"]], topS 8⟩
def d_box : DR := ⟨"_law_box", ["_law_script", "_law_k"], ["_law_cell"], [0, 1], [], topS 10⟩
def d_take : DR := ⟨"_law_take", ["_law_box_here", "_law_span_here"], ["_law_once", "_law_found"], [0, 1], [], topS 11⟩
def d_pick : DR := ⟨"_law_pick", ["_law_box_here", "_law_some"], [], [0, 1], [], topS 12⟩
def d_same : DR := ⟨"_law_same", ["_law_found", "_law_due"], ["_law_mine", "_law_its"], [0, 1], [], topS 13⟩
def d_lists : DR := ⟨"_law_lists", ["_law_matter"], ["_law_part"], [0], [], topS 14⟩
def d_shuffled : DR := ⟨"_law_shuffled", ["_law_box_here", "_law_some"], ["_law_left", "_law_found"], [0, 1], [], topS 15⟩
def d_gauges : DR := ⟨"_law_gauges", ["_law_box_here", "_law_total"], ["_law_k", "_law_gap", "_law_top", "_law_found"], [0, 1], [], topS 16⟩
def d_span : DR := ⟨"_law_span", ["_law_box_here", "_law_gauges_here", "_law_held"], ["_law_at", "_law_slack", "_law_first", "_law_last", "_law_bottom", "_law_top"], [0, 1, 2], [], topS 17⟩
def d_plant : DR := ⟨"_law_plant", ["_law_box_here", "_law_mills", "_law_most"], ["_law_count", "_law_gauges_here", "_law_stand", "_law_held"], [0, 1, 2], [], topS 18⟩
def d_odd : DR := ⟨"_law_odd", ["_law_box_here", "_law_matter"], ["_law_some"], [0, 1], [], topS 19⟩
def d_bent : DR := ⟨"_law_bent", ["_law_box_here", "_law_matter"], ["_law_at", "_law_made", "_law_sort"], [0, 1], [], topS 20⟩
def d_integer : DR := ⟨"_law_integer", ["_law_matter"], [], [0], [], topS 21⟩
def d_sizes_only : DR := ⟨"_law_sizes_only", ["_law_matter"], ["_law_part"], [0], [], topS 22⟩
def d_is_plant : DR := ⟨"_law_is_plant", ["_law_matter"], ["_law_part"], [0], [], topS 23⟩
def d_right : DR := ⟨"_law_right", ["_law_box_here"], ["_law_plant_here", "_law_matters", "_law_turn", "_law_matter", "_law_bent_here", "_law_due", "_law_kept"], [0], [], topS 24⟩
def dlaw : DR := ⟨"law", ["_law_script"], ["_law_k", "_law_box_here", "_law_turn"], [0], [], topS 25⟩
def defs : List DR := [dis_number, dis_size, dis_pair, dis_range, dis_ascending, dare_sizes, dare_ranges, dis_shop, d_box, d_take, d_pick, d_same, d_lists, d_shuffled, d_gauges, d_span, d_plant, d_odd, d_bent, d_integer, d_sizes_only, d_is_plant, d_right, dlaw]
def blts : List Str := ["abs", "all", "bool", "int", "isinstance", "len", "list", "min", "range", "repr", "set", "sorted", "str", "tuple", "zip"]
def bl (x : Str) : Bool := blts.contains x
abbrev En (n : Nat) : Str → Option DI := envD 40 defs bl n
def Dis_number (n : Nat) : Dm := dm 40 dis_number (En n) bl
def Dis_size (n : Nat) : Dm := dm 40 dis_size (En n) bl
def Dis_pair (n : Nat) : Dm := dm 40 dis_pair (En n) bl
def Dis_range (n : Nat) : Dm := dm 40 dis_range (En n) bl
def Dis_ascending (n : Nat) : Dm := dm 40 dis_ascending (En n) bl
def Dare_sizes (n : Nat) : Dm := dm 40 dare_sizes (En n) bl
def Dare_ranges (n : Nat) : Dm := dm 40 dare_ranges (En n) bl
def Dis_shop (n : Nat) : Dm := dm 40 dis_shop (En n) bl
def D_box (n : Nat) : Dm := dm 40 d_box (En n) bl
def D_take (n : Nat) : Dm := dm 40 d_take (En n) bl
def D_pick (n : Nat) : Dm := dm 40 d_pick (En n) bl
def D_same (n : Nat) : Dm := dm 40 d_same (En n) bl
def D_lists (n : Nat) : Dm := dm 40 d_lists (En n) bl
def D_shuffled (n : Nat) : Dm := dm 40 d_shuffled (En n) bl
def D_gauges (n : Nat) : Dm := dm 40 d_gauges (En n) bl
def D_span (n : Nat) : Dm := dm 40 d_span (En n) bl
def D_plant (n : Nat) : Dm := dm 40 d_plant (En n) bl
def D_odd (n : Nat) : Dm := dm 40 d_odd (En n) bl
def D_bent (n : Nat) : Dm := dm 40 d_bent (En n) bl
def D_integer (n : Nat) : Dm := dm 40 d_integer (En n) bl
def D_sizes_only (n : Nat) : Dm := dm 40 d_sizes_only (En n) bl
def D_is_plant (n : Nat) : Dm := dm 40 d_is_plant (En n) bl
def D_right (n : Nat) : Dm := dm 40 d_right (En n) bl
def Dlaw (n : Nat) : Dm := dm 40 dlaw (En n) bl
def bis_number (n : Nat) : MS :=
    (mRet (mAndV (mIsi ["int"] (mVar 0)) (mNotV (mIsi ["bool"] (mVar 0)))))
theorem eis_number (n : Nat) : Dis_number (n + 1) = mkD 1 1 [0] (bis_number n) := by kernel_rfl
def bis_size (n : Nat) : MS :=
    (mRet (mAndV (mCall (Dis_number n) (mCons (mVar 0) mNil)) (m2 fGe (mVar 0) (mLit (.int 1)))))
theorem eis_size (n : Nat) : Dis_size (n + 1) = mkD 1 1 [0] (bis_size n) := by kernel_rfl
def bis_pair (n : Nat) : MS :=
    (mRet (mAndV (mIsi ["tuple"] (mVar 0)) (m2 fEqX (mB1 fLen (mCons (mVar 0) mNil)) (mLit (.int 2)))))
theorem eis_pair (n : Nat) : Dis_pair (n + 1) = mkD 1 1 [0] (bis_pair n) := by kernel_rfl
def bis_range (n : Nat) : MS :=
    (mSeq (mIf (mNotT (mB (mCall (Dis_pair n) (mCons (mVar 0) mNil)))) (mRet (mLit (.bool false))) mNext)
    (mSeq (mAsg (gTupD 2 (gsCons (gSet 1) (gsCons (gSet 2) gsNil))) (mVar 0))
    (mRet (mAndV (mCall (Dis_size n) (mCons (mVar 1) mNil)) (mAndV (mCall (Dis_size n) (mCons (mVar 2) mNil)) (m2 fLe (mVar 1) (mVar 2)))))))
theorem eis_range (n : Nat) : Dis_range (n + 1) = mkD 1 3 [0] (bis_range n) := by kernel_rfl
def bis_ascending (n : Nat) : MS :=
    (mRet (mB1 fAll (mCons (mLc 3 (iZp (mCons (mVar 0) (mCons (mSl (mVar 0) (oSome (mLit (.int 1))) oNone) mNil))) (gTupD 2 (gsCons (gSet 1) (gsCons (gSet 2) gsNil))) mYes (m2 fLt (mVar 1) (mVar 2)) [1, 2]) mNil)))
theorem eis_ascending (n : Nat) : Dis_ascending (n + 1) = mkD 1 3 [0] (bis_ascending n) := by kernel_rfl
def bare_sizes (n : Nat) : MS :=
    (mSeq (mIf (mOrT (mNotT (mB (mIsi ["tuple"] (mVar 0)))) (mB (m2 fEqX (mB1 fLen (mCons (mVar 0) mNil)) (mLit (.int 0))))) (mRet (mLit (.bool false))) mNext)
    (mRet (mAndV (mB1 fAll (mCons (mLc 2 (iSeq (mVar 0)) (gSet 1) mYes (mCall (Dis_size n) (mCons (mVar 1) mNil)) [1]) mNil)) (mCall (Dis_ascending n) (mCons (mVar 0) mNil)))))
theorem eare_sizes (n : Nat) : Dare_sizes (n + 1) = mkD 1 2 [0] (bare_sizes n) := by kernel_rfl
def bare_ranges (n : Nat) : MS :=
    (mSeq (mIf (mOrT (mNotT (mB (mIsi ["tuple"] (mVar 0)))) (mB (m2 fEqX (mB1 fLen (mCons (mVar 0) mNil)) (mLit (.int 0))))) (mRet (mLit (.bool false))) mNext)
    (mRet (mB1 fAll (mCons (mLc 2 (iSeq (mVar 0)) (gSet 1) mYes (mCall (Dis_range n) (mCons (mVar 1) mNil)) [1]) mNil))))
theorem eare_ranges (n : Nat) : Dare_ranges (n + 1) = mkD 1 2 [0] (bare_ranges n) := by kernel_rfl
def bis_shop (n : Nat) : MS :=
    (mSeq (mIf (mNotT (mB (mCall (Dis_pair n) (mCons (mVar 0) mNil)))) (mRet (mLit (.bool false))) mNext)
    (mSeq (mAsg (gTupD 2 (gsCons (gSet 1) (gsCons (gSet 2) gsNil))) (mVar 0))
    (mRet (mAndV (mCall (Dare_sizes n) (mCons (mVar 1) mNil)) (mCall (Dare_ranges n) (mCons (mVar 2) mNil))))))
theorem eis_shop (n : Nat) : Dis_shop (n + 1) = mkD 1 3 [0] (bis_shop n) := by kernel_rfl
def b_box (n : Nat) : MS :=
    (mSeq (mSet 2 (mLit (.int 0)))
    (mSeq (mIf (mB (m2 fLt (mVar 1) (mB1 fLen (mCons (mVar 0) mNil)))) (mSet 2 (m2 fIx (mVar 0) (mVar 1))) mNext)
    (mRet (mLst (mCons (m2 fMulY (mB1 fAbs (mCons (mVar 2) mNil)) (mB1 fInt (mCons (m2 fGe (mB1 fAbs (mCons (mVar 2) mNil)) (m2 fPow (mLit (.int 10)) (mLit (.int 18)))) mNil))) (mCons (m2 fMod (m2 fMulY (m2 fAddX (m2 fAddX (m2 fMod (mVar 2) (mLit (.int 2147483629))) (m2 fMulY (mLit (.int 15511)) (mVar 1))) (mLit (.int 23))) (mLit (.int 40361))) (mLit (.int 2147483563))) (mCons (mLit (.int 0)) mNil)))))))
theorem e_box (n : Nat) : D_box (n + 1) = mkD 2 3 [0, 1] (b_box n) := by kernel_rfl
def b_take (n : Nat) : MS :=
    (mSeq (mIf (mB (m2 fGt (m2 fIx (mVar 0) (mLit (.int 0))) (mLit (.int 0)))) (mSeq (mSet 3 (m2 fMod (m2 fIx (mVar 0) (mLit (.int 0))) (mVar 1)))
    (mSeq (mAsg (gIx 0 (mLit (.int 0))) (m2 fDiv (m2 fIx (mVar 0) (mLit (.int 0))) (mVar 1)))
    (mRet (mVar 3)))) mNext)
    (mSeq (mIf (mB (m2 fGt (mVar 1) (m2 fPow (mLit (.int 10)) (mLit (.int 7))))) (mRet (m2 fMod (m2 fAddX (mCall (D_take n) (mCons (mVar 0) (mCons (m2 fPow (mLit (.int 10)) (mLit (.int 7))) mNil))) (m2 fMulY (m2 fPow (mLit (.int 10)) (mLit (.int 7))) (mCall (D_take n) (mCons (mVar 0) (mCons (m2 fAddX (m2 fDiv (mVar 1) (m2 fPow (mLit (.int 10)) (mLit (.int 7)))) (mLit (.int 1))) mNil))))) (mVar 1))) mNext)
    (mSeq (mAsg (gIx 0 (mLit (.int 2))) (m2 fAddX (m2 fIx (mVar 0) (mLit (.int 2))) (mLit (.int 1))))
    (mSeq (mSet 2 (m2 fMod (m2 fPow (m2 fAddX (m2 fIx (mVar 0) (mLit (.int 1))) (m2 fMulY (mLit (.int 51749)) (m2 fIx (mVar 0) (mLit (.int 2))))) (mLit (.int 3))) (mLit (.int 2147483587))))
    (mRet (m2 fMod (m2 fDiv (m2 fMod (m2 fAddX (m2 fMulY (mVar 2) (m2 fAddX (m2 fMod (mVar 2) (mLit (.int 30013))) (mLit (.int 11)))) (m2 fMulY (m2 fIx (mVar 0) (mLit (.int 2))) (mLit (.int 6427)))) (mLit (.int 2147483647))) (mLit (.int 32))) (mVar 1)))))))
theorem e_take (n : Nat) : D_take (n + 1) = mkD 2 4 [0, 1] (b_take n) := by kernel_rfl
def b_pick (n : Nat) : MS :=
    (mRet (m2 fIx (mVar 1) (mCall (D_take n) (mCons (mVar 0) (mCons (mB1 fLen (mCons (mVar 1) mNil)) mNil)))))
theorem e_pick (n : Nat) : D_pick (n + 1) = mkD 2 2 [0, 1] (b_pick n) := by kernel_rfl
def b_same (n : Nat) : MS :=
    (mSeq (mIf (mB (mIsi ["list", "tuple"] (mVar 1))) (mSeq (mIf (mOrT (mB (m2 fNeX (mIsi ["list"] (mVar 0)) (mIsi ["list"] (mVar 1)))) (mB (m2 fNeX (mIsi ["tuple"] (mVar 0)) (mIsi ["tuple"] (mVar 1))))) (mRet (mLit (.bool false))) mNext)
    (mRet (mAndV (m2 fEqX (mB1 fLen (mCons (mVar 0) mNil)) (mB1 fLen (mCons (mVar 1) mNil))) (mB1 fAll (mCons (mLc 4 (iZp (mCons (mVar 0) (mCons (mVar 1) mNil))) (gTupD 2 (gsCons (gSet 2) (gsCons (gSet 3) gsNil))) mYes (mCall (D_same n) (mCons (mVar 2) (mCons (mVar 3) mNil))) [2, 3]) mNil))))) mNext)
    (mSeq (mIf (mOrT (mB (m2 fIsX (mVar 1) (mLit .none))) (mB (mIsi ["str"] (mVar 1)))) (mRet (mAndV (m2 fEqX (mVar 0) (mVar 1)) (m2 fEqX (mIsi ["str"] (mVar 0)) (mIsi ["str"] (mVar 1))))) mNext)
    (mRet (mAndV (mIsi ["int"] (mVar 0)) (mAndV (m2 fEqX (mIsi ["bool"] (mVar 0)) (mIsi ["bool"] (mVar 1))) (m2 fEqX (mVar 0) (mVar 1)))))))
theorem e_same (n : Nat) : D_same (n + 1) = mkD 2 4 [0, 1] (b_same n) := by kernel_rfl
def b_lists (n : Nat) : MS :=
    (mRet (mIfE (mB (mIsi ["list", "tuple"] (mVar 0))) (mLc 2 (iSeq (mVar 0)) (gSet 1) mYes (mCall (D_lists n) (mCons (mVar 1) mNil)) [1]) (mVar 0)))
theorem e_lists (n : Nat) : D_lists (n + 1) = mkD 1 2 [0] (b_lists n) := by kernel_rfl
def b_shuffled (n : Nat) : MS :=
    (mSeq (mPar [2, 3] (mCons (mB1 fList (mCons (mVar 1) mNil)) (mCons (mLst mNil) mNil)))
    (mSeq (mWhile 100000 (mB (m2 fNeX (mVar 2) (mLst mNil))) (mExpr (mMtZ "list" fAppend (mVar 3) (mCons (mMt "list" fPopAt (mVar 2) (mCons (mCall (D_take n) (mCons (mVar 0) (mCons (mB1 fLen (mCons (mVar 2) mNil)) mNil))) mNil)) mNil))))
    (mRet (mVar 3))))
theorem e_shuffled (n : Nat) : D_shuffled (n + 1) = mkD 2 4 [0, 1] (b_shuffled n) := by kernel_rfl
def b_gauges (n : Nat) : MS :=
    (mSeq (mPar [3, 4, 5] (mCons (mCall (D_pick n) (mCons (mVar 0) (mCons (mLst (mCons (mLit (.int 1)) (mCons (mLit (.int 1)) (mCons (mLit (.int 3)) (mCons (m2 fPow (mLit (.int 10)) (mLit (.int 7))) mNil))))) mNil))) (mCons (mCall (D_take n) (mCons (mVar 0) (mCons (mLit (.int 3)) mNil))) (mCons (mLst mNil) mNil))))
    (mSeq (mFor (iRan (mCons (mVar 1) mNil)) (gSet 2) (mSeq (mSet 4 (m2 fAddX (m2 fAddX (mVar 4) (mLit (.int 1))) (mCall (D_take n) (mCons (mVar 0) (mCons (mVar 3) mNil)))))
    (mExpr (mMtZ "list" fAppend (mVar 5) (mCons (mVar 4) mNil)))))
    (mRet (mB1 fTuple (mCons (mVar 5) mNil)))))
theorem e_gauges (n : Nat) : D_gauges (n + 1) = mkD 2 6 [0, 1] (b_gauges n) := by kernel_rfl
def b_span (n : Nat) : MS :=
    (mSeq (mPar [3, 4] (mCons (mIndex (mVar 1) (mCons (mVar 2) mNil)) (mCons (mCall (D_take n) (mCons (mVar 0) (mCons (mLit (.int 5)) mNil))) mNil)))
    (mSeq (mPar [5, 6] (mCons (m2 fSubX (mVar 3) (mB1 fMin2 (mCons (mVar 3) (mCons (mVar 4) mNil)))) (mCons (mB1 fMin2 (mCons (m2 fSubX (mB1 fLen (mCons (mVar 1) mNil)) (mLit (.int 1))) (mCons (m2 fAddX (mVar 3) (mCall (D_take n) (mCons (mVar 0) (mCons (m2 fAddX (mVar 4) (mLit (.int 1))) mNil)))) mNil))) mNil)))
    (mSeq (mPar [7, 8] (mCons (m2 fIx (mVar 1) (m2 fAddX (mCall (D_take n) (mCons (mVar 0) (mCons (m2 fAddX (m2 fSubX (mVar 3) (mVar 5)) (mLit (.int 1))) mNil))) (mVar 5))) (mCons (m2 fIx (mVar 1) (mVar 6)) mNil)))
    (mRet (mTup (mCons (m2 fSubX (mVar 7) (mB1 fMin2 (mCons (m2 fSubX (mVar 7) (mLit (.int 1))) (mCons (mCall (D_take n) (mCons (mVar 0) (mCons (mLit (.int 2)) mNil))) mNil)))) (mCons (m2 fAddX (mVar 8) (mCall (D_take n) (mCons (mVar 0) (mCons (mLit (.int 2)) mNil)))) mNil)))))))
theorem e_span (n : Nat) : D_span (n + 1) = mkD 3 9 [0, 1, 2] (b_span n) := by kernel_rfl
def b_plant (n : Nat) : MS :=
    (mSeq (mSet 3 (m2 fAddX (mLit (.int 1)) (mCall (D_take n) (mCons (mVar 0) (mCons (mVar 1) mNil)))))
    (mSeq (mSet 4 (mCall (D_gauges n) (mCons (mVar 0) (mCons (mB1 fMin2 (mCons (mVar 2) (mCons (m2 fAddX (mVar 3) (mCall (D_take n) (mCons (mVar 0) (mCons (m2 fAddX (m2 fSubX (mVar 2) (mVar 3)) (mLit (.int 1))) mNil)))) mNil))) mNil))))
    (mSeq (mSet 5 (mB1 fTuple (mCons (mSl (mCall (D_shuffled n) (mCons (mVar 0) (mCons (mVar 4) mNil))) oNone (oSome (mVar 3))) mNil)))
    (mRet (mTup (mCons (mTup (mCons (mVar 4) (mCons (mB1 fTuple (mCons (mLc 7 (iSeq (mVar 5)) (gSet 6) mYes (mCall (D_span n) (mCons (mVar 0) (mCons (mVar 4) (mCons (mVar 6) mNil)))) [6]) mNil)) mNil))) (mCons (mVar 5) mNil)))))))
theorem e_plant (n : Nat) : D_plant (n + 1) = mkD 3 7 [0, 1, 2] (b_plant n) := by kernel_rfl
def b_odd (n : Nat) : MS :=
    (mSeq (mSet 2 (mLst (mCons (mLit .none) (mCons (mLit (.bool true)) (mCons (mLit (.bool false)) (mCons (mLit (.int 0)) (mCons (mLit (.int 1)) (mCons (m1 fNeg (mLit (.int 1))) (mCons (mLit (.str "")) (mCons (mLit (.str "swap")) (mCons (mLit (.str "take")) (mCons (mTup mNil) (mCons (mLst mNil) (mCons (mTup (mCons (mLit (.int 0)) mNil)) (mCons (mLst (mCons (mLit (.int 1)) mNil)) (mCons (mTup (mCons (mTup mNil) mNil)) (mCons (mTup (mCons (mLit (.int 0)) (mCons (mLit (.int 1)) mNil))) mNil)))))))))))))))))
    (mSeq (mSet 2 (m2 fAddX (mVar 2) (mLst (mCons (mTup (mCons (mLit (.int 1)) (mCons (mLit (.int 1)) mNil))) (mCons (mTup (mCons (mLit (.str "swap")) (mCons (mLit (.int 0)) (mCons (mLit (.int 1)) mNil)))) mNil)))))
    (mSeq (mIf (mB (mIsi ["int"] (mVar 1))) (mSet 2 (m2 fAddX (mVar 2) (m2 fMulY (mLst (mCons (m2 fAddX (mVar 1) (mLit (.int 1))) (mCons (m2 fSubX (mVar 1) (mLit (.int 1))) (mCons (m2 fSubX (mLit (.int 0)) (mVar 1)) (mCons (mB1 fStr (mCons (mVar 1) mNil)) (mCons (m2 fEqX (mVar 1) (mLit (.int 1))) mNil)))))) (mLit (.int 2))))) mNext)
    (mSeq (mIf (mB (mIsi ["list", "tuple"] (mVar 1))) (mSet 2 (m2 fAddX (mVar 2) (m2 fMulY (mLst (mCons (mB1 fList (mCons (mVar 1) mNil)) (mCons (mB1 fTuple (mCons (mVar 1) mNil)) (mCons (m1 fBack (mVar 1)) (mCons (mSl (mVar 1) (oSome (mLit (.int 1))) oNone) (mCons (mSl (mVar 1) oNone (oSome (m1 fNeg (mLit (.int 1))))) mNil)))))) (mLit (.int 2))))) mNext)
    (mRet (mCall (D_pick n) (mCons (mVar 0) (mCons (mVar 2) mNil))))))))
theorem e_odd (n : Nat) : D_odd (n + 1) = mkD 2 3 [0, 1] (b_odd n) := by kernel_rfl
def b_bent (n : Nat) : MS :=
    (mSeq (mIf (mOrT (mNotT (mB (mIsi ["list", "tuple"] (mVar 1)))) (mOrT (mB (m2 fEqX (mB1 fLen (mCons (mVar 1) mNil)) (mLit (.int 0)))) (mB (m2 fEqX (mCall (D_take n) (mCons (mVar 0) (mCons (mLit (.int 6)) mNil))) (mLit (.int 0)))))) (mRet (mCall (D_odd n) (mCons (mVar 0) (mCons (mVar 1) mNil)))) mNext)
    (mSeq (mPar [2, 3, 4] (mCons (mCall (D_take n) (mCons (mVar 0) (mCons (mB1 fLen (mCons (mVar 1) mNil)) mNil))) (mCons (mB1 fList (mCons (mVar 1) mNil)) (mCons (mCall (D_take n) (mCons (mVar 0) (mCons (mLit (.int 8)) mNil))) mNil))))
    (mSeq (mIf (mB (m2 fEqX (mVar 4) (mLit (.int 0)))) (mExpr (mMt "list" fPopAt (mVar 3) (mCons (mVar 2) mNil))) (mIf (mB (m2 fEqX (mVar 4) (mLit (.int 1)))) (mExpr (mMtZ "list" fInsert (mVar 3) (mCons (mVar 2) (mCons (m2 fIx (mVar 3) (mVar 2)) mNil)))) (mIf (mB (m2 fEqX (mVar 4) (mLit (.int 2)))) (mAsg (gSplice 3 (oSome (mVar 2)) (oSome (m2 fAddX (mVar 2) (mLit (.int 2))))) (m1 fBack (mSl (mVar 3) (oSome (mVar 2)) (oSome (m2 fAddX (mVar 2) (mLit (.int 2))))))) (mAsg (gIx 3 (mVar 2)) (mCall (D_bent n) (mCons (mVar 0) (mCons (m2 fIx (mVar 3) (mVar 2)) mNil)))))))
    (mRet (mIfE (mB (mIsi ["list"] (mVar 1))) (mVar 3) (mB1 fTuple (mCons (mVar 3) mNil)))))))
theorem e_bent (n : Nat) : D_bent (n + 1) = mkD 2 5 [0, 1] (b_bent n) := by kernel_rfl
def b_integer (n : Nat) : MS :=
    (mRet (mAndV (mIsi ["int"] (mVar 0)) (mNotV (mIsi ["bool"] (mVar 0)))))
theorem e_integer (n : Nat) : D_integer (n + 1) = mkD 1 1 [0] (b_integer n) := by kernel_rfl
def b_sizes_only (n : Nat) : MS :=
    (mRet (mAndV (mIsi ["tuple"] (mVar 0)) (mAndV (m2 fNeX (mVar 0) (mTup mNil)) (mB1 fAll (mCons (mLc 2 (iSeq (mVar 0)) (gSet 1) mYes (mAndV (mCall (D_integer n) (mCons (mVar 1) mNil)) (m2 fGt (mVar 1) (mLit (.int 0)))) [1]) mNil)))))
theorem e_sizes_only (n : Nat) : D_sizes_only (n + 1) = mkD 1 2 [0] (b_sizes_only n) := by kernel_rfl
def b_is_plant (n : Nat) : MS :=
    (mSeq (mIf (mOrT (mNotT (mB (mIsi ["tuple"] (mVar 0)))) (mOrT (mB (m2 fNeX (mB1 fLen (mCons (mVar 0) mNil)) (mLit (.int 2)))) (mNotT (mB (mCall (D_sizes_only n) (mCons (m2 fIx (mVar 0) (mLit (.int 0))) mNil)))))) (mRet (mLit (.bool false))) mNext)
    (mSeq (mIf (mOrT (mB (m2 fNeX (mB1 fList (mCons (m2 fIx (mVar 0) (mLit (.int 0))) mNil)) (mSortSet (m2 fIx (mVar 0) (mLit (.int 0)))))) (mOrT (mNotT (mB (mIsi ["tuple"] (m2 fIx (mVar 0) (mLit (.int 1)))))) (mB (m2 fEqX (m2 fIx (mVar 0) (mLit (.int 1))) (mTup mNil))))) (mRet (mLit (.bool false))) mNext)
    (mRet (mB1 fAll (mCons (mLc 2 (iSeq (m2 fIx (mVar 0) (mLit (.int 1)))) (gSet 1) mYes (mAndV (mCall (D_sizes_only n) (mCons (mVar 1) mNil)) (mAndV (m2 fEqX (mB1 fLen (mCons (mVar 1) mNil)) (mLit (.int 2))) (m2 fLe (m2 fIx (mVar 1) (mLit (.int 0))) (m2 fIx (mVar 1) (mLit (.int 1)))))) [1]) mNil)))))
theorem e_is_plant (n : Nat) : D_is_plant (n + 1) = mkD 1 2 [0] (b_is_plant n) := by kernel_rfl
def b_right (n : Nat) : MS :=
    (mSeq (mSet 1 (m2 fIx (mCall (D_plant n) (mCons (mVar 0) (mCons (mLit (.int 5)) (mCons (mLit (.int 7)) mNil)))) (mLit (.int 0))))
    (mSeq (mSet 2 (mLst (mCons (mVar 1) (mCons (mB1 fList (mCons (mVar 1) mNil)) (mCons (mCall (D_lists n) (mCons (mVar 1) mNil)) (mCons (mTup mNil) (mCons (mLst mNil) (mCons (mLit .none) (mCons (mLit (.int 0)) (mCons (mLit (.str "shop")) (mCons (m2 fIx (mVar 1) (mLit (.int 0))) (mCons (m2 fIx (mVar 1) (mLit (.int 1))) (mCons (mTup (mCons (mTup mNil) (mCons (mTup (mCons (mTup (mCons (mLit (.int 1)) (mCons (mLit (.int 1)) mNil))) mNil)) mNil))) mNil)))))))))))))
    (mSeq (mSet 2 (m2 fAddX (mVar 2) (mLst (mCons (mTup (mCons (mTup (mCons (mLit (.int 1)) mNil)) (mCons (mTup mNil) mNil))) (mCons (mTup (mCons (mTup (mCons (mLit (.int 1)) mNil)) (mCons (mTup (mCons (mTup (mCons (mLit (.int 1)) (mCons (mLit (.int 1)) mNil))) mNil)) mNil))) (mCons (mTup (mCons (mTup (mCons (mLit (.int 1)) mNil)) (mCons (mTup (mCons (mTup (mCons (mLit (.int 2)) (mCons (mLit (.int 1)) mNil))) mNil)) mNil))) (mCons (mTup (mCons (mTup (mCons (mLit (.int 2)) (mCons (mLit (.int 1)) mNil))) (mCons (mTup (mCons (mTup (mCons (mLit (.int 1)) (mCons (mLit (.int 1)) mNil))) mNil)) mNil))) (mCons (mTup (mCons (mTup (mCons (mLit (.int 1)) (mCons (mLit (.int 1)) mNil))) (mCons (mTup (mCons (mTup (mCons (mLit (.int 1)) (mCons (mLit (.int 1)) mNil))) mNil)) mNil))) mNil))))))))
    (mSeq (mSet 2 (m2 fAddX (mVar 2) (mLst (mCons (mTup (mCons (mTup (mCons (mLit (.int 0)) mNil)) (mCons (mTup (mCons (mTup (mCons (mLit (.int 1)) (mCons (mLit (.int 1)) mNil))) mNil)) mNil))) (mCons (mTup (mCons (mTup (mCons (mLit (.int 1)) mNil)) (mCons (mTup (mCons (mTup (mCons (mLit (.int 0)) (mCons (mLit (.int 1)) mNil))) mNil)) mNil))) (mCons (mTup (mCons (mTup (mCons (mLit (.bool true)) mNil)) (mCons (mTup (mCons (mTup (mCons (mLit (.int 1)) (mCons (mLit (.int 1)) mNil))) mNil)) mNil))) (mCons (mTup (mCons (mTup (mCons (mLit (.int 1)) mNil)) (mCons (mTup (mCons (mTup (mCons (mLit (.int 1)) (mCons (mLit (.bool true)) mNil))) mNil)) mNil))) mNil)))))))
    (mSeq (mExpr (mMtZ "list" fAppend (mVar 2) (mCons (mTup (mCons (mTup (mCons (mLit (.int 1)) mNil)) (mCons (mTup (mCons (mLit (.int 1)) (mCons (mLit (.int 1)) mNil))) mNil))) mNil)))
    (mSeq (mSet 2 (m2 fAddX (mVar 2) (mLst (mCons (mTup (mCons (mTup (mCons (mLit (.int 1)) mNil)) (mCons (mTup (mCons (mTup (mCons (mLit (.int 1)) (mCons (mLit (.int 1)) (mCons (mLit (.int 1)) mNil)))) mNil)) mNil))) (mCons (m2 fAddX (mVar 1) (mTup (mCons (mTup mNil) mNil))) (mCons (mTup (mCons (mTup (mCons (m2 fPow (mLit (.int 10)) (mLit (.int 30))) mNil)) (mCons (mTup (mCons (mTup (mCons (mLit (.int 1)) (mCons (m2 fPow (mLit (.int 10)) (mLit (.int 40))) mNil))) mNil)) mNil))) (mCons (mTup (mCons (mTup (mCons (mLit (.int 1)) mNil)) (mCons (mTup (mCons (mLst (mCons (mLit (.int 1)) (mCons (mLit (.int 1)) mNil))) mNil)) mNil))) mNil)))))))
    (mSeq (mSet 2 (m2 fAddX (mVar 2) (mLst (mCons (mTup (mCons (mLst (mCons (mLit (.int 1)) mNil)) (mCons (mTup (mCons (mTup (mCons (mLit (.int 1)) (mCons (mLit (.int 1)) mNil))) mNil)) mNil))) (mCons (mTup (mCons (mTupRan (mCons (mLit (.int 1)) (mCons (mLit (.int 40)) mNil))) (mCons (m2 fMulY (mTup (mCons (mTup (mCons (mLit (.int 1)) (mCons (mLit (.int 9)) mNil))) mNil)) (mLit (.int 30))) mNil))) (mCons (mTup (mCons (mTup (mCons (mLit (.str "1")) mNil)) (mCons (mTup (mCons (mTup (mCons (mLit (.int 1)) (mCons (mLit (.int 1)) mNil))) mNil)) mNil))) mNil))))))
    (mSeq (mSet 2 (m2 fAddX (mVar 2) (mLst (mCons (mTup (mCons (mTup (mCons (mLit (.int 1)) mNil)) (mCons (mTup (mCons (mLit .none) mNil)) mNil))) mNil))))
    (mSeq (mFor (iRan (mCons (mLit (.int 16)) mNil)) (gSet 3) (mSeq (mSet 5 (mCall (D_bent n) (mCons (mVar 0) (mCons (mVar 1) mNil))))
    (mExpr (mMtZ "list" fAppend (mVar 2) (mCons (mIfE (mB (m2 fEqX (mCall (D_take n) (mCons (mVar 0) (mCons (mLit (.int 3)) mNil))) (mLit (.int 0)))) (mCall (D_bent n) (mCons (mVar 0) (mCons (mVar 5) mNil))) (mVar 5)) mNil)))))
    (mSeq (mFor (iSeq (mVar 2)) (gSet 4) (mSeq (mPar [6, 7] (mCons (mCall (D_is_plant n) (mCons (mVar 4) mNil)) (mCons (mB1 fRepr (mCons (mVar 4) mNil)) mNil)))
    (mIf (mOrT (mNotT (mB (mCall (D_same n) (mCons (mLst (mCons (mCall (Dis_shop n) (mCons (mVar 4) mNil)) (mCons (mCall (Dis_shop n) (mPermA [0] 1 (mCons (mVar 4) mNil))) mNil))) (mCons (mLst (mCons (mVar 6) (mCons (mVar 6) mNil))) mNil))))) (mB (m2 fNeX (mB1 fRepr (mCons (mVar 4) mNil)) (mVar 7)))) (mRet (mLit (.bool false))) mNext)))
    (mRet (m2 fIsX (mCall (Dis_shop n) (mCons (mVar 1) mNil)) (mLit (.bool true))))))))))))))
theorem e_right (n : Nat) : D_right (n + 1) = mkD 1 8 [0] (b_right n) := by kernel_rfl
def blaw (n : Nat) : MS :=
    (mSeq (mFor (iRan (mCons (m2 fAddX (mLit (.int 1)) (mB1 fMin2 (mCons (mLit (.int 3)) (mCons (mB1 fLen (mCons (mVar 0) mNil)) mNil)))) mNil)) (gSet 1) (mSeq (mSet 2 (mCall (D_box n) (mCons (mVar 0) (mCons (mVar 1) mNil))))
    (mIf (mNotT (mB (mB1 fAll (mCons (mLc 4 (iRan (mCons (mLit (.int 1)) mNil)) (gSet 3) mYes (mCall (D_right n) (mCons (mVar 2) mNil)) [3]) mNil)))) (mRet (mLit (.bool false))) mNext)))
    (mRet (mLit (.bool true))))
theorem elaw (n : Nat) : Dlaw (n + 1) = mkD 1 4 [0] (blaw n) := by kernel_rfl
end Lk01

namespace Lk01
open PySem PySem.Spec PyProof.Rows L2 Rf
/-! what the program's tests say -/
def numB : PyData → Bool
  | .int _ => true
  | _ => false
def sizeB : PyData → Bool
  | .int i => decide (1 ≤ i)
  | _ => false
def rangeB : PyData → Bool
  | .tuple [.int a, .int b] => decide (1 ≤ a) && (decide (1 ≤ b) && decide (a ≤ b))
  | _ => false
def ascB : List PyData → Bool := fun ds => match intsD ds with
  | some ns => asc ns
  | none => false
def sizesB : PyData → Bool
  | .tuple ds => !ds.isEmpty && ds.all sizeB && ascB ds
  | _ => false
def rangesB : PyData → Bool
  | .tuple ds => !ds.isEmpty && ds.all rangeB
  | _ => false
def shopB : PyData → Bool
  | .tuple [x, y] => sizesB x && rangesB y
  | _ => false
theorem number_ok {n : Nat} (hn : 1 ≤ n) {d : PyData} (hd : plainD d = true) : Dis_number n [.dat d] = some (.dat (.bool (numB d)), [.dat d]) := by
  obtain ⟨n, rfl⟩ : ∃ m, n = m + 1 := ⟨n - 1, by omega⟩
  rw [eis_number]
  cases d <;> simp [plainD] at hd <;> simp [bis_number, mVar_ap, mLit_ap, m2_ap, mB_ap, mAndT_ap, mOrT_ap, mNotT_ap, mAndV_ap, mOrV_ap, mNotV_ap, mIfE_ap, mNil_ap, mCons_ap, mDisp_ap, gSet_ap, gsNil_ap, gsCons_ap, gTupD_ap, mSet_ap, mAsg_ap, mPar_ap, mExpr_ap, mRet_ap, mRetN_ap, mNext_ap, mBreak_ap, mCont_ap, mSeq_ap, mIf_ap, iSeq_ap, iRan_ap, iZp_ap, mFor_ap, mWhile_ap, mCall_ap, mkD_ap, mLc_ap, fI_ap, fAdd_ap, fSub_ap, fMul_ap, fMod_ap, fDiv_ap, fPow_ap, fLt_ap, fLe_ap, fGt_ap, fGe_ap, fIsN_ap, fNotN_ap, fIsB_ap, fIx_ap, fAddX_ap, fSubX_ap, fMulX_ap, m1_ap, fNeg_ap, mB1_ap, fLen_ap, fAbs_ap, fInt_ap, fMin2_ap, fMax2_ap, fList_ap, fTuple_ap, fStr_ap, mMt_ap, mMtZ_ap, fAppend_ap, fInsert_ap, fPopAt_ap, oNone_ap, oSome_ap, mSl_ap, gIx_ap, mIsi_ap, fEqX_ap, fNeX_ap, fAll_ap, fAny_ap, fSum_ap, fSorted_ap, fBest_ap, fIdx_ap, fRepr_ap, mPermA_ap, fBack_ap, gSplice_ap, mSortSet_ap, fMulY_ap, mTupRan_ap, fIsX_ap, ia_none_int, ia_none_bool, ia_none_list, ia_none_tuple, ia_none_str, ia_none_seq, ia_bool_int, ia_bool_bool, ia_bool_list, ia_bool_tuple, ia_bool_str, ia_bool_seq, ia_int_int, ia_int_bool, ia_int_list, ia_int_tuple, ia_int_str, ia_int_seq, ia_str_int, ia_str_bool, ia_str_list, ia_str_tuple, ia_str_str, ia_str_seq, ia_list_int, ia_list_bool, ia_list_list, ia_list_tuple, ia_list_str, ia_list_seq, ia_tuple_int, ia_tuple_bool, ia_tuple_list, ia_tuple_tuple, ia_tuple_str, ia_tuple_seq, mLst_ap, mTup_ap, mYes_ap, frz, frzAll, peek, res1, resAll, stoAll, argOf, argsOf, bors, wback, outAt, outsFrom, ownsStay, retv, wipeF, unwipe, sto, isNone, tyD, cY, cMul, cMod, cDiv, cPow, Cell.data, b2n, atI, ixN, fMulL, numB]
theorem size_ok {n : Nat} (hn : 2 ≤ n) {d : PyData} (hd : plainD d = true) : Dis_size n [.dat d] = some (.dat (.bool (sizeB d)), [.dat d]) := by
  obtain ⟨n, rfl⟩ : ∃ m, n = m + 1 := ⟨n - 1, by omega⟩
  have h1 := number_ok (n := n) (by omega) hd
  rw [eis_size]
  cases d <;> simp [plainD] at hd <;> simp [bis_size, mVar_ap, mLit_ap, m2_ap, mB_ap, mAndT_ap, mOrT_ap, mNotT_ap, mAndV_ap, mOrV_ap, mNotV_ap, mIfE_ap, mNil_ap, mCons_ap, mDisp_ap, gSet_ap, gsNil_ap, gsCons_ap, gTupD_ap, mSet_ap, mAsg_ap, mPar_ap, mExpr_ap, mRet_ap, mRetN_ap, mNext_ap, mBreak_ap, mCont_ap, mSeq_ap, mIf_ap, iSeq_ap, iRan_ap, iZp_ap, mFor_ap, mWhile_ap, mCall_ap, mkD_ap, mLc_ap, fI_ap, fAdd_ap, fSub_ap, fMul_ap, fMod_ap, fDiv_ap, fPow_ap, fLt_ap, fLe_ap, fGt_ap, fGe_ap, fIsN_ap, fNotN_ap, fIsB_ap, fIx_ap, fAddX_ap, fSubX_ap, fMulX_ap, m1_ap, fNeg_ap, mB1_ap, fLen_ap, fAbs_ap, fInt_ap, fMin2_ap, fMax2_ap, fList_ap, fTuple_ap, fStr_ap, mMt_ap, mMtZ_ap, fAppend_ap, fInsert_ap, fPopAt_ap, oNone_ap, oSome_ap, mSl_ap, gIx_ap, mIsi_ap, fEqX_ap, fNeX_ap, fAll_ap, fAny_ap, fSum_ap, fSorted_ap, fBest_ap, fIdx_ap, fRepr_ap, mPermA_ap, fBack_ap, gSplice_ap, mSortSet_ap, fMulY_ap, mTupRan_ap, fIsX_ap, ia_none_int, ia_none_bool, ia_none_list, ia_none_tuple, ia_none_str, ia_none_seq, ia_bool_int, ia_bool_bool, ia_bool_list, ia_bool_tuple, ia_bool_str, ia_bool_seq, ia_int_int, ia_int_bool, ia_int_list, ia_int_tuple, ia_int_str, ia_int_seq, ia_str_int, ia_str_bool, ia_str_list, ia_str_tuple, ia_str_str, ia_str_seq, ia_list_int, ia_list_bool, ia_list_list, ia_list_tuple, ia_list_str, ia_list_seq, ia_tuple_int, ia_tuple_bool, ia_tuple_list, ia_tuple_tuple, ia_tuple_str, ia_tuple_seq, mLst_ap, mTup_ap, mYes_ap, frz, frzAll, peek, res1, resAll, stoAll, argOf, argsOf, bors, wback, outAt, outsFrom, ownsStay, retv, wipeF, unwipe, sto, isNone, tyD, cY, cMul, cMod, cDiv, cPow, Cell.data, b2n, atI, ixN, fMulL, h1, numB, sizeB]
theorem pair_ok {n : Nat} (hn : 1 ≤ n) {d : PyData} (hd : plainD d = true) : Dis_pair n [.dat d] = some (.dat (.bool (match d with
    | .tuple [_, _] => true
    | _ => false)), [.dat d]) := by
  obtain ⟨n, rfl⟩ : ∃ m, n = m + 1 := ⟨n - 1, by omega⟩
  rw [eis_pair]
  match d, hd with
  | .none, _ => simp [bis_pair, mVar_ap, mLit_ap, m2_ap, mB_ap, mAndT_ap, mOrT_ap, mNotT_ap, mAndV_ap, mOrV_ap, mNotV_ap, mIfE_ap, mNil_ap, mCons_ap, mDisp_ap, gSet_ap, gsNil_ap, gsCons_ap, gTupD_ap, mSet_ap, mAsg_ap, mPar_ap, mExpr_ap, mRet_ap, mRetN_ap, mNext_ap, mBreak_ap, mCont_ap, mSeq_ap, mIf_ap, iSeq_ap, iRan_ap, iZp_ap, mFor_ap, mWhile_ap, mCall_ap, mkD_ap, mLc_ap, fI_ap, fAdd_ap, fSub_ap, fMul_ap, fMod_ap, fDiv_ap, fPow_ap, fLt_ap, fLe_ap, fGt_ap, fGe_ap, fIsN_ap, fNotN_ap, fIsB_ap, fIx_ap, fAddX_ap, fSubX_ap, fMulX_ap, m1_ap, fNeg_ap, mB1_ap, fLen_ap, fAbs_ap, fInt_ap, fMin2_ap, fMax2_ap, fList_ap, fTuple_ap, fStr_ap, mMt_ap, mMtZ_ap, fAppend_ap, fInsert_ap, fPopAt_ap, oNone_ap, oSome_ap, mSl_ap, gIx_ap, mIsi_ap, fEqX_ap, fNeX_ap, fAll_ap, fAny_ap, fSum_ap, fSorted_ap, fBest_ap, fIdx_ap, fRepr_ap, mPermA_ap, fBack_ap, gSplice_ap, mSortSet_ap, fMulY_ap, mTupRan_ap, fIsX_ap, ia_none_int, ia_none_bool, ia_none_list, ia_none_tuple, ia_none_str, ia_none_seq, ia_bool_int, ia_bool_bool, ia_bool_list, ia_bool_tuple, ia_bool_str, ia_bool_seq, ia_int_int, ia_int_bool, ia_int_list, ia_int_tuple, ia_int_str, ia_int_seq, ia_str_int, ia_str_bool, ia_str_list, ia_str_tuple, ia_str_str, ia_str_seq, ia_list_int, ia_list_bool, ia_list_list, ia_list_tuple, ia_list_str, ia_list_seq, ia_tuple_int, ia_tuple_bool, ia_tuple_list, ia_tuple_tuple, ia_tuple_str, ia_tuple_seq, mLst_ap, mTup_ap, mYes_ap, frz, frzAll, peek, res1, resAll, stoAll, argOf, argsOf, bors, wback, outAt, outsFrom, ownsStay, retv, wipeF, unwipe, sto, isNone, tyD, cY, cMul, cMod, cDiv, cPow, Cell.data, b2n, atI, ixN, fMulL]
  | .bool _, _ => simp [bis_pair, mVar_ap, mLit_ap, m2_ap, mB_ap, mAndT_ap, mOrT_ap, mNotT_ap, mAndV_ap, mOrV_ap, mNotV_ap, mIfE_ap, mNil_ap, mCons_ap, mDisp_ap, gSet_ap, gsNil_ap, gsCons_ap, gTupD_ap, mSet_ap, mAsg_ap, mPar_ap, mExpr_ap, mRet_ap, mRetN_ap, mNext_ap, mBreak_ap, mCont_ap, mSeq_ap, mIf_ap, iSeq_ap, iRan_ap, iZp_ap, mFor_ap, mWhile_ap, mCall_ap, mkD_ap, mLc_ap, fI_ap, fAdd_ap, fSub_ap, fMul_ap, fMod_ap, fDiv_ap, fPow_ap, fLt_ap, fLe_ap, fGt_ap, fGe_ap, fIsN_ap, fNotN_ap, fIsB_ap, fIx_ap, fAddX_ap, fSubX_ap, fMulX_ap, m1_ap, fNeg_ap, mB1_ap, fLen_ap, fAbs_ap, fInt_ap, fMin2_ap, fMax2_ap, fList_ap, fTuple_ap, fStr_ap, mMt_ap, mMtZ_ap, fAppend_ap, fInsert_ap, fPopAt_ap, oNone_ap, oSome_ap, mSl_ap, gIx_ap, mIsi_ap, fEqX_ap, fNeX_ap, fAll_ap, fAny_ap, fSum_ap, fSorted_ap, fBest_ap, fIdx_ap, fRepr_ap, mPermA_ap, fBack_ap, gSplice_ap, mSortSet_ap, fMulY_ap, mTupRan_ap, fIsX_ap, ia_none_int, ia_none_bool, ia_none_list, ia_none_tuple, ia_none_str, ia_none_seq, ia_bool_int, ia_bool_bool, ia_bool_list, ia_bool_tuple, ia_bool_str, ia_bool_seq, ia_int_int, ia_int_bool, ia_int_list, ia_int_tuple, ia_int_str, ia_int_seq, ia_str_int, ia_str_bool, ia_str_list, ia_str_tuple, ia_str_str, ia_str_seq, ia_list_int, ia_list_bool, ia_list_list, ia_list_tuple, ia_list_str, ia_list_seq, ia_tuple_int, ia_tuple_bool, ia_tuple_list, ia_tuple_tuple, ia_tuple_str, ia_tuple_seq, mLst_ap, mTup_ap, mYes_ap, frz, frzAll, peek, res1, resAll, stoAll, argOf, argsOf, bors, wback, outAt, outsFrom, ownsStay, retv, wipeF, unwipe, sto, isNone, tyD, cY, cMul, cMod, cDiv, cPow, Cell.data, b2n, atI, ixN, fMulL]
  | .int _, _ => simp [bis_pair, mVar_ap, mLit_ap, m2_ap, mB_ap, mAndT_ap, mOrT_ap, mNotT_ap, mAndV_ap, mOrV_ap, mNotV_ap, mIfE_ap, mNil_ap, mCons_ap, mDisp_ap, gSet_ap, gsNil_ap, gsCons_ap, gTupD_ap, mSet_ap, mAsg_ap, mPar_ap, mExpr_ap, mRet_ap, mRetN_ap, mNext_ap, mBreak_ap, mCont_ap, mSeq_ap, mIf_ap, iSeq_ap, iRan_ap, iZp_ap, mFor_ap, mWhile_ap, mCall_ap, mkD_ap, mLc_ap, fI_ap, fAdd_ap, fSub_ap, fMul_ap, fMod_ap, fDiv_ap, fPow_ap, fLt_ap, fLe_ap, fGt_ap, fGe_ap, fIsN_ap, fNotN_ap, fIsB_ap, fIx_ap, fAddX_ap, fSubX_ap, fMulX_ap, m1_ap, fNeg_ap, mB1_ap, fLen_ap, fAbs_ap, fInt_ap, fMin2_ap, fMax2_ap, fList_ap, fTuple_ap, fStr_ap, mMt_ap, mMtZ_ap, fAppend_ap, fInsert_ap, fPopAt_ap, oNone_ap, oSome_ap, mSl_ap, gIx_ap, mIsi_ap, fEqX_ap, fNeX_ap, fAll_ap, fAny_ap, fSum_ap, fSorted_ap, fBest_ap, fIdx_ap, fRepr_ap, mPermA_ap, fBack_ap, gSplice_ap, mSortSet_ap, fMulY_ap, mTupRan_ap, fIsX_ap, ia_none_int, ia_none_bool, ia_none_list, ia_none_tuple, ia_none_str, ia_none_seq, ia_bool_int, ia_bool_bool, ia_bool_list, ia_bool_tuple, ia_bool_str, ia_bool_seq, ia_int_int, ia_int_bool, ia_int_list, ia_int_tuple, ia_int_str, ia_int_seq, ia_str_int, ia_str_bool, ia_str_list, ia_str_tuple, ia_str_str, ia_str_seq, ia_list_int, ia_list_bool, ia_list_list, ia_list_tuple, ia_list_str, ia_list_seq, ia_tuple_int, ia_tuple_bool, ia_tuple_list, ia_tuple_tuple, ia_tuple_str, ia_tuple_seq, mLst_ap, mTup_ap, mYes_ap, frz, frzAll, peek, res1, resAll, stoAll, argOf, argsOf, bors, wback, outAt, outsFrom, ownsStay, retv, wipeF, unwipe, sto, isNone, tyD, cY, cMul, cMod, cDiv, cPow, Cell.data, b2n, atI, ixN, fMulL]
  | .str _, _ => simp [bis_pair, mVar_ap, mLit_ap, m2_ap, mB_ap, mAndT_ap, mOrT_ap, mNotT_ap, mAndV_ap, mOrV_ap, mNotV_ap, mIfE_ap, mNil_ap, mCons_ap, mDisp_ap, gSet_ap, gsNil_ap, gsCons_ap, gTupD_ap, mSet_ap, mAsg_ap, mPar_ap, mExpr_ap, mRet_ap, mRetN_ap, mNext_ap, mBreak_ap, mCont_ap, mSeq_ap, mIf_ap, iSeq_ap, iRan_ap, iZp_ap, mFor_ap, mWhile_ap, mCall_ap, mkD_ap, mLc_ap, fI_ap, fAdd_ap, fSub_ap, fMul_ap, fMod_ap, fDiv_ap, fPow_ap, fLt_ap, fLe_ap, fGt_ap, fGe_ap, fIsN_ap, fNotN_ap, fIsB_ap, fIx_ap, fAddX_ap, fSubX_ap, fMulX_ap, m1_ap, fNeg_ap, mB1_ap, fLen_ap, fAbs_ap, fInt_ap, fMin2_ap, fMax2_ap, fList_ap, fTuple_ap, fStr_ap, mMt_ap, mMtZ_ap, fAppend_ap, fInsert_ap, fPopAt_ap, oNone_ap, oSome_ap, mSl_ap, gIx_ap, mIsi_ap, fEqX_ap, fNeX_ap, fAll_ap, fAny_ap, fSum_ap, fSorted_ap, fBest_ap, fIdx_ap, fRepr_ap, mPermA_ap, fBack_ap, gSplice_ap, mSortSet_ap, fMulY_ap, mTupRan_ap, fIsX_ap, ia_none_int, ia_none_bool, ia_none_list, ia_none_tuple, ia_none_str, ia_none_seq, ia_bool_int, ia_bool_bool, ia_bool_list, ia_bool_tuple, ia_bool_str, ia_bool_seq, ia_int_int, ia_int_bool, ia_int_list, ia_int_tuple, ia_int_str, ia_int_seq, ia_str_int, ia_str_bool, ia_str_list, ia_str_tuple, ia_str_str, ia_str_seq, ia_list_int, ia_list_bool, ia_list_list, ia_list_tuple, ia_list_str, ia_list_seq, ia_tuple_int, ia_tuple_bool, ia_tuple_list, ia_tuple_tuple, ia_tuple_str, ia_tuple_seq, mLst_ap, mTup_ap, mYes_ap, frz, frzAll, peek, res1, resAll, stoAll, argOf, argsOf, bors, wback, outAt, outsFrom, ownsStay, retv, wipeF, unwipe, sto, isNone, tyD, cY, cMul, cMod, cDiv, cPow, Cell.data, b2n, atI, ixN, fMulL]
  | .list _, _ => simp [bis_pair, mVar_ap, mLit_ap, m2_ap, mB_ap, mAndT_ap, mOrT_ap, mNotT_ap, mAndV_ap, mOrV_ap, mNotV_ap, mIfE_ap, mNil_ap, mCons_ap, mDisp_ap, gSet_ap, gsNil_ap, gsCons_ap, gTupD_ap, mSet_ap, mAsg_ap, mPar_ap, mExpr_ap, mRet_ap, mRetN_ap, mNext_ap, mBreak_ap, mCont_ap, mSeq_ap, mIf_ap, iSeq_ap, iRan_ap, iZp_ap, mFor_ap, mWhile_ap, mCall_ap, mkD_ap, mLc_ap, fI_ap, fAdd_ap, fSub_ap, fMul_ap, fMod_ap, fDiv_ap, fPow_ap, fLt_ap, fLe_ap, fGt_ap, fGe_ap, fIsN_ap, fNotN_ap, fIsB_ap, fIx_ap, fAddX_ap, fSubX_ap, fMulX_ap, m1_ap, fNeg_ap, mB1_ap, fLen_ap, fAbs_ap, fInt_ap, fMin2_ap, fMax2_ap, fList_ap, fTuple_ap, fStr_ap, mMt_ap, mMtZ_ap, fAppend_ap, fInsert_ap, fPopAt_ap, oNone_ap, oSome_ap, mSl_ap, gIx_ap, mIsi_ap, fEqX_ap, fNeX_ap, fAll_ap, fAny_ap, fSum_ap, fSorted_ap, fBest_ap, fIdx_ap, fRepr_ap, mPermA_ap, fBack_ap, gSplice_ap, mSortSet_ap, fMulY_ap, mTupRan_ap, fIsX_ap, ia_none_int, ia_none_bool, ia_none_list, ia_none_tuple, ia_none_str, ia_none_seq, ia_bool_int, ia_bool_bool, ia_bool_list, ia_bool_tuple, ia_bool_str, ia_bool_seq, ia_int_int, ia_int_bool, ia_int_list, ia_int_tuple, ia_int_str, ia_int_seq, ia_str_int, ia_str_bool, ia_str_list, ia_str_tuple, ia_str_str, ia_str_seq, ia_list_int, ia_list_bool, ia_list_list, ia_list_tuple, ia_list_str, ia_list_seq, ia_tuple_int, ia_tuple_bool, ia_tuple_list, ia_tuple_tuple, ia_tuple_str, ia_tuple_seq, mLst_ap, mTup_ap, mYes_ap, frz, frzAll, peek, res1, resAll, stoAll, argOf, argsOf, bors, wback, outAt, outsFrom, ownsStay, retv, wipeF, unwipe, sto, isNone, tyD, cY, cMul, cMod, cDiv, cPow, Cell.data, b2n, atI, ixN, fMulL]
  | .tuple [], _ => simp [bis_pair, mVar_ap, mLit_ap, m2_ap, mB_ap, mAndT_ap, mOrT_ap, mNotT_ap, mAndV_ap, mOrV_ap, mNotV_ap, mIfE_ap, mNil_ap, mCons_ap, mDisp_ap, gSet_ap, gsNil_ap, gsCons_ap, gTupD_ap, mSet_ap, mAsg_ap, mPar_ap, mExpr_ap, mRet_ap, mRetN_ap, mNext_ap, mBreak_ap, mCont_ap, mSeq_ap, mIf_ap, iSeq_ap, iRan_ap, iZp_ap, mFor_ap, mWhile_ap, mCall_ap, mkD_ap, mLc_ap, fI_ap, fAdd_ap, fSub_ap, fMul_ap, fMod_ap, fDiv_ap, fPow_ap, fLt_ap, fLe_ap, fGt_ap, fGe_ap, fIsN_ap, fNotN_ap, fIsB_ap, fIx_ap, fAddX_ap, fSubX_ap, fMulX_ap, m1_ap, fNeg_ap, mB1_ap, fLen_ap, fAbs_ap, fInt_ap, fMin2_ap, fMax2_ap, fList_ap, fTuple_ap, fStr_ap, mMt_ap, mMtZ_ap, fAppend_ap, fInsert_ap, fPopAt_ap, oNone_ap, oSome_ap, mSl_ap, gIx_ap, mIsi_ap, fEqX_ap, fNeX_ap, fAll_ap, fAny_ap, fSum_ap, fSorted_ap, fBest_ap, fIdx_ap, fRepr_ap, mPermA_ap, fBack_ap, gSplice_ap, mSortSet_ap, fMulY_ap, mTupRan_ap, fIsX_ap, ia_none_int, ia_none_bool, ia_none_list, ia_none_tuple, ia_none_str, ia_none_seq, ia_bool_int, ia_bool_bool, ia_bool_list, ia_bool_tuple, ia_bool_str, ia_bool_seq, ia_int_int, ia_int_bool, ia_int_list, ia_int_tuple, ia_int_str, ia_int_seq, ia_str_int, ia_str_bool, ia_str_list, ia_str_tuple, ia_str_str, ia_str_seq, ia_list_int, ia_list_bool, ia_list_list, ia_list_tuple, ia_list_str, ia_list_seq, ia_tuple_int, ia_tuple_bool, ia_tuple_list, ia_tuple_tuple, ia_tuple_str, ia_tuple_seq, mLst_ap, mTup_ap, mYes_ap, frz, frzAll, peek, res1, resAll, stoAll, argOf, argsOf, bors, wback, outAt, outsFrom, ownsStay, retv, wipeF, unwipe, sto, isNone, tyD, cY, cMul, cMod, cDiv, cPow, Cell.data, b2n, atI, ixN, fMulL, SeqAt.shaped, PyData.canLay0, PyData.depth, PyData.eqv]
  | .tuple [_], _ => simp [bis_pair, mVar_ap, mLit_ap, m2_ap, mB_ap, mAndT_ap, mOrT_ap, mNotT_ap, mAndV_ap, mOrV_ap, mNotV_ap, mIfE_ap, mNil_ap, mCons_ap, mDisp_ap, gSet_ap, gsNil_ap, gsCons_ap, gTupD_ap, mSet_ap, mAsg_ap, mPar_ap, mExpr_ap, mRet_ap, mRetN_ap, mNext_ap, mBreak_ap, mCont_ap, mSeq_ap, mIf_ap, iSeq_ap, iRan_ap, iZp_ap, mFor_ap, mWhile_ap, mCall_ap, mkD_ap, mLc_ap, fI_ap, fAdd_ap, fSub_ap, fMul_ap, fMod_ap, fDiv_ap, fPow_ap, fLt_ap, fLe_ap, fGt_ap, fGe_ap, fIsN_ap, fNotN_ap, fIsB_ap, fIx_ap, fAddX_ap, fSubX_ap, fMulX_ap, m1_ap, fNeg_ap, mB1_ap, fLen_ap, fAbs_ap, fInt_ap, fMin2_ap, fMax2_ap, fList_ap, fTuple_ap, fStr_ap, mMt_ap, mMtZ_ap, fAppend_ap, fInsert_ap, fPopAt_ap, oNone_ap, oSome_ap, mSl_ap, gIx_ap, mIsi_ap, fEqX_ap, fNeX_ap, fAll_ap, fAny_ap, fSum_ap, fSorted_ap, fBest_ap, fIdx_ap, fRepr_ap, mPermA_ap, fBack_ap, gSplice_ap, mSortSet_ap, fMulY_ap, mTupRan_ap, fIsX_ap, ia_none_int, ia_none_bool, ia_none_list, ia_none_tuple, ia_none_str, ia_none_seq, ia_bool_int, ia_bool_bool, ia_bool_list, ia_bool_tuple, ia_bool_str, ia_bool_seq, ia_int_int, ia_int_bool, ia_int_list, ia_int_tuple, ia_int_str, ia_int_seq, ia_str_int, ia_str_bool, ia_str_list, ia_str_tuple, ia_str_str, ia_str_seq, ia_list_int, ia_list_bool, ia_list_list, ia_list_tuple, ia_list_str, ia_list_seq, ia_tuple_int, ia_tuple_bool, ia_tuple_list, ia_tuple_tuple, ia_tuple_str, ia_tuple_seq, mLst_ap, mTup_ap, mYes_ap, frz, frzAll, peek, res1, resAll, stoAll, argOf, argsOf, bors, wback, outAt, outsFrom, ownsStay, retv, wipeF, unwipe, sto, isNone, tyD, cY, cMul, cMod, cDiv, cPow, Cell.data, b2n, atI, ixN, fMulL, SeqAt.shaped, PyData.canLay0, PyData.depth, PyData.eqv]
  | .tuple [_, _], _ => simp [bis_pair, mVar_ap, mLit_ap, m2_ap, mB_ap, mAndT_ap, mOrT_ap, mNotT_ap, mAndV_ap, mOrV_ap, mNotV_ap, mIfE_ap, mNil_ap, mCons_ap, mDisp_ap, gSet_ap, gsNil_ap, gsCons_ap, gTupD_ap, mSet_ap, mAsg_ap, mPar_ap, mExpr_ap, mRet_ap, mRetN_ap, mNext_ap, mBreak_ap, mCont_ap, mSeq_ap, mIf_ap, iSeq_ap, iRan_ap, iZp_ap, mFor_ap, mWhile_ap, mCall_ap, mkD_ap, mLc_ap, fI_ap, fAdd_ap, fSub_ap, fMul_ap, fMod_ap, fDiv_ap, fPow_ap, fLt_ap, fLe_ap, fGt_ap, fGe_ap, fIsN_ap, fNotN_ap, fIsB_ap, fIx_ap, fAddX_ap, fSubX_ap, fMulX_ap, m1_ap, fNeg_ap, mB1_ap, fLen_ap, fAbs_ap, fInt_ap, fMin2_ap, fMax2_ap, fList_ap, fTuple_ap, fStr_ap, mMt_ap, mMtZ_ap, fAppend_ap, fInsert_ap, fPopAt_ap, oNone_ap, oSome_ap, mSl_ap, gIx_ap, mIsi_ap, fEqX_ap, fNeX_ap, fAll_ap, fAny_ap, fSum_ap, fSorted_ap, fBest_ap, fIdx_ap, fRepr_ap, mPermA_ap, fBack_ap, gSplice_ap, mSortSet_ap, fMulY_ap, mTupRan_ap, fIsX_ap, ia_none_int, ia_none_bool, ia_none_list, ia_none_tuple, ia_none_str, ia_none_seq, ia_bool_int, ia_bool_bool, ia_bool_list, ia_bool_tuple, ia_bool_str, ia_bool_seq, ia_int_int, ia_int_bool, ia_int_list, ia_int_tuple, ia_int_str, ia_int_seq, ia_str_int, ia_str_bool, ia_str_list, ia_str_tuple, ia_str_str, ia_str_seq, ia_list_int, ia_list_bool, ia_list_list, ia_list_tuple, ia_list_str, ia_list_seq, ia_tuple_int, ia_tuple_bool, ia_tuple_list, ia_tuple_tuple, ia_tuple_str, ia_tuple_seq, mLst_ap, mTup_ap, mYes_ap, frz, frzAll, peek, res1, resAll, stoAll, argOf, argsOf, bors, wback, outAt, outsFrom, ownsStay, retv, wipeF, unwipe, sto, isNone, tyD, cY, cMul, cMod, cDiv, cPow, Cell.data, b2n, atI, ixN, fMulL, SeqAt.shaped, PyData.canLay0, PyData.depth, PyData.eqv]
  | .tuple (_ :: _ :: _ :: _), _ => simp [bis_pair, mVar_ap, mLit_ap, m2_ap, mB_ap, mAndT_ap, mOrT_ap, mNotT_ap, mAndV_ap, mOrV_ap, mNotV_ap, mIfE_ap, mNil_ap, mCons_ap, mDisp_ap, gSet_ap, gsNil_ap, gsCons_ap, gTupD_ap, mSet_ap, mAsg_ap, mPar_ap, mExpr_ap, mRet_ap, mRetN_ap, mNext_ap, mBreak_ap, mCont_ap, mSeq_ap, mIf_ap, iSeq_ap, iRan_ap, iZp_ap, mFor_ap, mWhile_ap, mCall_ap, mkD_ap, mLc_ap, fI_ap, fAdd_ap, fSub_ap, fMul_ap, fMod_ap, fDiv_ap, fPow_ap, fLt_ap, fLe_ap, fGt_ap, fGe_ap, fIsN_ap, fNotN_ap, fIsB_ap, fIx_ap, fAddX_ap, fSubX_ap, fMulX_ap, m1_ap, fNeg_ap, mB1_ap, fLen_ap, fAbs_ap, fInt_ap, fMin2_ap, fMax2_ap, fList_ap, fTuple_ap, fStr_ap, mMt_ap, mMtZ_ap, fAppend_ap, fInsert_ap, fPopAt_ap, oNone_ap, oSome_ap, mSl_ap, gIx_ap, mIsi_ap, fEqX_ap, fNeX_ap, fAll_ap, fAny_ap, fSum_ap, fSorted_ap, fBest_ap, fIdx_ap, fRepr_ap, mPermA_ap, fBack_ap, gSplice_ap, mSortSet_ap, fMulY_ap, mTupRan_ap, fIsX_ap, ia_none_int, ia_none_bool, ia_none_list, ia_none_tuple, ia_none_str, ia_none_seq, ia_bool_int, ia_bool_bool, ia_bool_list, ia_bool_tuple, ia_bool_str, ia_bool_seq, ia_int_int, ia_int_bool, ia_int_list, ia_int_tuple, ia_int_str, ia_int_seq, ia_str_int, ia_str_bool, ia_str_list, ia_str_tuple, ia_str_str, ia_str_seq, ia_list_int, ia_list_bool, ia_list_list, ia_list_tuple, ia_list_str, ia_list_seq, ia_tuple_int, ia_tuple_bool, ia_tuple_list, ia_tuple_tuple, ia_tuple_str, ia_tuple_seq, mLst_ap, mTup_ap, mYes_ap, frz, frzAll, peek, res1, resAll, stoAll, argOf, argsOf, bors, wback, outAt, outsFrom, ownsStay, retv, wipeF, unwipe, sto, isNone, tyD, cY, cMul, cMod, cDiv, cPow, Cell.data, b2n, atI, ixN, fMulL, SeqAt.shaped, PyData.canLay0, PyData.depth, PyData.eqv]; omega
theorem range_ok {n : Nat} (hn : 3 ≤ n) {d : PyData} (hd : plainD d = true) (hp : ∀ ds, d = .tuple ds → ∀ x ∈ ds, plainD x = true) : Dis_range n [.dat d] = some (.dat (.bool (rangeB d)), [.dat d]) := by
  obtain ⟨n, rfl⟩ : ∃ m, n = m + 1 := ⟨n - 1, by omega⟩
  have h1 := pair_ok (n := n) (by omega) hd
  rw [eis_range]
  match d, hd, hp, h1 with
  | .none, hd, hp, h1 => simp [bis_range, mVar_ap, mLit_ap, m2_ap, mB_ap, mAndT_ap, mOrT_ap, mNotT_ap, mAndV_ap, mOrV_ap, mNotV_ap, mIfE_ap, mNil_ap, mCons_ap, mDisp_ap, gSet_ap, gsNil_ap, gsCons_ap, gTupD_ap, mSet_ap, mAsg_ap, mPar_ap, mExpr_ap, mRet_ap, mRetN_ap, mNext_ap, mBreak_ap, mCont_ap, mSeq_ap, mIf_ap, iSeq_ap, iRan_ap, iZp_ap, mFor_ap, mWhile_ap, mCall_ap, mkD_ap, mLc_ap, fI_ap, fAdd_ap, fSub_ap, fMul_ap, fMod_ap, fDiv_ap, fPow_ap, fLt_ap, fLe_ap, fGt_ap, fGe_ap, fIsN_ap, fNotN_ap, fIsB_ap, fIx_ap, fAddX_ap, fSubX_ap, fMulX_ap, m1_ap, fNeg_ap, mB1_ap, fLen_ap, fAbs_ap, fInt_ap, fMin2_ap, fMax2_ap, fList_ap, fTuple_ap, fStr_ap, mMt_ap, mMtZ_ap, fAppend_ap, fInsert_ap, fPopAt_ap, oNone_ap, oSome_ap, mSl_ap, gIx_ap, mIsi_ap, fEqX_ap, fNeX_ap, fAll_ap, fAny_ap, fSum_ap, fSorted_ap, fBest_ap, fIdx_ap, fRepr_ap, mPermA_ap, fBack_ap, gSplice_ap, mSortSet_ap, fMulY_ap, mTupRan_ap, fIsX_ap, ia_none_int, ia_none_bool, ia_none_list, ia_none_tuple, ia_none_str, ia_none_seq, ia_bool_int, ia_bool_bool, ia_bool_list, ia_bool_tuple, ia_bool_str, ia_bool_seq, ia_int_int, ia_int_bool, ia_int_list, ia_int_tuple, ia_int_str, ia_int_seq, ia_str_int, ia_str_bool, ia_str_list, ia_str_tuple, ia_str_str, ia_str_seq, ia_list_int, ia_list_bool, ia_list_list, ia_list_tuple, ia_list_str, ia_list_seq, ia_tuple_int, ia_tuple_bool, ia_tuple_list, ia_tuple_tuple, ia_tuple_str, ia_tuple_seq, mLst_ap, mTup_ap, mYes_ap, frz, frzAll, peek, res1, resAll, stoAll, argOf, argsOf, bors, wback, outAt, outsFrom, ownsStay, retv, wipeF, unwipe, sto, isNone, tyD, cY, cMul, cMod, cDiv, cPow, Cell.data, b2n, atI, ixN, fMulL, h1, rangeB]
  | .bool _, hd, hp, h1 => simp [bis_range, mVar_ap, mLit_ap, m2_ap, mB_ap, mAndT_ap, mOrT_ap, mNotT_ap, mAndV_ap, mOrV_ap, mNotV_ap, mIfE_ap, mNil_ap, mCons_ap, mDisp_ap, gSet_ap, gsNil_ap, gsCons_ap, gTupD_ap, mSet_ap, mAsg_ap, mPar_ap, mExpr_ap, mRet_ap, mRetN_ap, mNext_ap, mBreak_ap, mCont_ap, mSeq_ap, mIf_ap, iSeq_ap, iRan_ap, iZp_ap, mFor_ap, mWhile_ap, mCall_ap, mkD_ap, mLc_ap, fI_ap, fAdd_ap, fSub_ap, fMul_ap, fMod_ap, fDiv_ap, fPow_ap, fLt_ap, fLe_ap, fGt_ap, fGe_ap, fIsN_ap, fNotN_ap, fIsB_ap, fIx_ap, fAddX_ap, fSubX_ap, fMulX_ap, m1_ap, fNeg_ap, mB1_ap, fLen_ap, fAbs_ap, fInt_ap, fMin2_ap, fMax2_ap, fList_ap, fTuple_ap, fStr_ap, mMt_ap, mMtZ_ap, fAppend_ap, fInsert_ap, fPopAt_ap, oNone_ap, oSome_ap, mSl_ap, gIx_ap, mIsi_ap, fEqX_ap, fNeX_ap, fAll_ap, fAny_ap, fSum_ap, fSorted_ap, fBest_ap, fIdx_ap, fRepr_ap, mPermA_ap, fBack_ap, gSplice_ap, mSortSet_ap, fMulY_ap, mTupRan_ap, fIsX_ap, ia_none_int, ia_none_bool, ia_none_list, ia_none_tuple, ia_none_str, ia_none_seq, ia_bool_int, ia_bool_bool, ia_bool_list, ia_bool_tuple, ia_bool_str, ia_bool_seq, ia_int_int, ia_int_bool, ia_int_list, ia_int_tuple, ia_int_str, ia_int_seq, ia_str_int, ia_str_bool, ia_str_list, ia_str_tuple, ia_str_str, ia_str_seq, ia_list_int, ia_list_bool, ia_list_list, ia_list_tuple, ia_list_str, ia_list_seq, ia_tuple_int, ia_tuple_bool, ia_tuple_list, ia_tuple_tuple, ia_tuple_str, ia_tuple_seq, mLst_ap, mTup_ap, mYes_ap, frz, frzAll, peek, res1, resAll, stoAll, argOf, argsOf, bors, wback, outAt, outsFrom, ownsStay, retv, wipeF, unwipe, sto, isNone, tyD, cY, cMul, cMod, cDiv, cPow, Cell.data, b2n, atI, ixN, fMulL, h1, rangeB]
  | .int _, hd, hp, h1 => simp [bis_range, mVar_ap, mLit_ap, m2_ap, mB_ap, mAndT_ap, mOrT_ap, mNotT_ap, mAndV_ap, mOrV_ap, mNotV_ap, mIfE_ap, mNil_ap, mCons_ap, mDisp_ap, gSet_ap, gsNil_ap, gsCons_ap, gTupD_ap, mSet_ap, mAsg_ap, mPar_ap, mExpr_ap, mRet_ap, mRetN_ap, mNext_ap, mBreak_ap, mCont_ap, mSeq_ap, mIf_ap, iSeq_ap, iRan_ap, iZp_ap, mFor_ap, mWhile_ap, mCall_ap, mkD_ap, mLc_ap, fI_ap, fAdd_ap, fSub_ap, fMul_ap, fMod_ap, fDiv_ap, fPow_ap, fLt_ap, fLe_ap, fGt_ap, fGe_ap, fIsN_ap, fNotN_ap, fIsB_ap, fIx_ap, fAddX_ap, fSubX_ap, fMulX_ap, m1_ap, fNeg_ap, mB1_ap, fLen_ap, fAbs_ap, fInt_ap, fMin2_ap, fMax2_ap, fList_ap, fTuple_ap, fStr_ap, mMt_ap, mMtZ_ap, fAppend_ap, fInsert_ap, fPopAt_ap, oNone_ap, oSome_ap, mSl_ap, gIx_ap, mIsi_ap, fEqX_ap, fNeX_ap, fAll_ap, fAny_ap, fSum_ap, fSorted_ap, fBest_ap, fIdx_ap, fRepr_ap, mPermA_ap, fBack_ap, gSplice_ap, mSortSet_ap, fMulY_ap, mTupRan_ap, fIsX_ap, ia_none_int, ia_none_bool, ia_none_list, ia_none_tuple, ia_none_str, ia_none_seq, ia_bool_int, ia_bool_bool, ia_bool_list, ia_bool_tuple, ia_bool_str, ia_bool_seq, ia_int_int, ia_int_bool, ia_int_list, ia_int_tuple, ia_int_str, ia_int_seq, ia_str_int, ia_str_bool, ia_str_list, ia_str_tuple, ia_str_str, ia_str_seq, ia_list_int, ia_list_bool, ia_list_list, ia_list_tuple, ia_list_str, ia_list_seq, ia_tuple_int, ia_tuple_bool, ia_tuple_list, ia_tuple_tuple, ia_tuple_str, ia_tuple_seq, mLst_ap, mTup_ap, mYes_ap, frz, frzAll, peek, res1, resAll, stoAll, argOf, argsOf, bors, wback, outAt, outsFrom, ownsStay, retv, wipeF, unwipe, sto, isNone, tyD, cY, cMul, cMod, cDiv, cPow, Cell.data, b2n, atI, ixN, fMulL, h1, rangeB]
  | .str _, hd, hp, h1 => simp [bis_range, mVar_ap, mLit_ap, m2_ap, mB_ap, mAndT_ap, mOrT_ap, mNotT_ap, mAndV_ap, mOrV_ap, mNotV_ap, mIfE_ap, mNil_ap, mCons_ap, mDisp_ap, gSet_ap, gsNil_ap, gsCons_ap, gTupD_ap, mSet_ap, mAsg_ap, mPar_ap, mExpr_ap, mRet_ap, mRetN_ap, mNext_ap, mBreak_ap, mCont_ap, mSeq_ap, mIf_ap, iSeq_ap, iRan_ap, iZp_ap, mFor_ap, mWhile_ap, mCall_ap, mkD_ap, mLc_ap, fI_ap, fAdd_ap, fSub_ap, fMul_ap, fMod_ap, fDiv_ap, fPow_ap, fLt_ap, fLe_ap, fGt_ap, fGe_ap, fIsN_ap, fNotN_ap, fIsB_ap, fIx_ap, fAddX_ap, fSubX_ap, fMulX_ap, m1_ap, fNeg_ap, mB1_ap, fLen_ap, fAbs_ap, fInt_ap, fMin2_ap, fMax2_ap, fList_ap, fTuple_ap, fStr_ap, mMt_ap, mMtZ_ap, fAppend_ap, fInsert_ap, fPopAt_ap, oNone_ap, oSome_ap, mSl_ap, gIx_ap, mIsi_ap, fEqX_ap, fNeX_ap, fAll_ap, fAny_ap, fSum_ap, fSorted_ap, fBest_ap, fIdx_ap, fRepr_ap, mPermA_ap, fBack_ap, gSplice_ap, mSortSet_ap, fMulY_ap, mTupRan_ap, fIsX_ap, ia_none_int, ia_none_bool, ia_none_list, ia_none_tuple, ia_none_str, ia_none_seq, ia_bool_int, ia_bool_bool, ia_bool_list, ia_bool_tuple, ia_bool_str, ia_bool_seq, ia_int_int, ia_int_bool, ia_int_list, ia_int_tuple, ia_int_str, ia_int_seq, ia_str_int, ia_str_bool, ia_str_list, ia_str_tuple, ia_str_str, ia_str_seq, ia_list_int, ia_list_bool, ia_list_list, ia_list_tuple, ia_list_str, ia_list_seq, ia_tuple_int, ia_tuple_bool, ia_tuple_list, ia_tuple_tuple, ia_tuple_str, ia_tuple_seq, mLst_ap, mTup_ap, mYes_ap, frz, frzAll, peek, res1, resAll, stoAll, argOf, argsOf, bors, wback, outAt, outsFrom, ownsStay, retv, wipeF, unwipe, sto, isNone, tyD, cY, cMul, cMod, cDiv, cPow, Cell.data, b2n, atI, ixN, fMulL, h1, rangeB]
  | .list _, hd, hp, h1 => simp [bis_range, mVar_ap, mLit_ap, m2_ap, mB_ap, mAndT_ap, mOrT_ap, mNotT_ap, mAndV_ap, mOrV_ap, mNotV_ap, mIfE_ap, mNil_ap, mCons_ap, mDisp_ap, gSet_ap, gsNil_ap, gsCons_ap, gTupD_ap, mSet_ap, mAsg_ap, mPar_ap, mExpr_ap, mRet_ap, mRetN_ap, mNext_ap, mBreak_ap, mCont_ap, mSeq_ap, mIf_ap, iSeq_ap, iRan_ap, iZp_ap, mFor_ap, mWhile_ap, mCall_ap, mkD_ap, mLc_ap, fI_ap, fAdd_ap, fSub_ap, fMul_ap, fMod_ap, fDiv_ap, fPow_ap, fLt_ap, fLe_ap, fGt_ap, fGe_ap, fIsN_ap, fNotN_ap, fIsB_ap, fIx_ap, fAddX_ap, fSubX_ap, fMulX_ap, m1_ap, fNeg_ap, mB1_ap, fLen_ap, fAbs_ap, fInt_ap, fMin2_ap, fMax2_ap, fList_ap, fTuple_ap, fStr_ap, mMt_ap, mMtZ_ap, fAppend_ap, fInsert_ap, fPopAt_ap, oNone_ap, oSome_ap, mSl_ap, gIx_ap, mIsi_ap, fEqX_ap, fNeX_ap, fAll_ap, fAny_ap, fSum_ap, fSorted_ap, fBest_ap, fIdx_ap, fRepr_ap, mPermA_ap, fBack_ap, gSplice_ap, mSortSet_ap, fMulY_ap, mTupRan_ap, fIsX_ap, ia_none_int, ia_none_bool, ia_none_list, ia_none_tuple, ia_none_str, ia_none_seq, ia_bool_int, ia_bool_bool, ia_bool_list, ia_bool_tuple, ia_bool_str, ia_bool_seq, ia_int_int, ia_int_bool, ia_int_list, ia_int_tuple, ia_int_str, ia_int_seq, ia_str_int, ia_str_bool, ia_str_list, ia_str_tuple, ia_str_str, ia_str_seq, ia_list_int, ia_list_bool, ia_list_list, ia_list_tuple, ia_list_str, ia_list_seq, ia_tuple_int, ia_tuple_bool, ia_tuple_list, ia_tuple_tuple, ia_tuple_str, ia_tuple_seq, mLst_ap, mTup_ap, mYes_ap, frz, frzAll, peek, res1, resAll, stoAll, argOf, argsOf, bors, wback, outAt, outsFrom, ownsStay, retv, wipeF, unwipe, sto, isNone, tyD, cY, cMul, cMod, cDiv, cPow, Cell.data, b2n, atI, ixN, fMulL, h1, rangeB]
  | .tuple [], hd, hp, h1 => simp [bis_range, mVar_ap, mLit_ap, m2_ap, mB_ap, mAndT_ap, mOrT_ap, mNotT_ap, mAndV_ap, mOrV_ap, mNotV_ap, mIfE_ap, mNil_ap, mCons_ap, mDisp_ap, gSet_ap, gsNil_ap, gsCons_ap, gTupD_ap, mSet_ap, mAsg_ap, mPar_ap, mExpr_ap, mRet_ap, mRetN_ap, mNext_ap, mBreak_ap, mCont_ap, mSeq_ap, mIf_ap, iSeq_ap, iRan_ap, iZp_ap, mFor_ap, mWhile_ap, mCall_ap, mkD_ap, mLc_ap, fI_ap, fAdd_ap, fSub_ap, fMul_ap, fMod_ap, fDiv_ap, fPow_ap, fLt_ap, fLe_ap, fGt_ap, fGe_ap, fIsN_ap, fNotN_ap, fIsB_ap, fIx_ap, fAddX_ap, fSubX_ap, fMulX_ap, m1_ap, fNeg_ap, mB1_ap, fLen_ap, fAbs_ap, fInt_ap, fMin2_ap, fMax2_ap, fList_ap, fTuple_ap, fStr_ap, mMt_ap, mMtZ_ap, fAppend_ap, fInsert_ap, fPopAt_ap, oNone_ap, oSome_ap, mSl_ap, gIx_ap, mIsi_ap, fEqX_ap, fNeX_ap, fAll_ap, fAny_ap, fSum_ap, fSorted_ap, fBest_ap, fIdx_ap, fRepr_ap, mPermA_ap, fBack_ap, gSplice_ap, mSortSet_ap, fMulY_ap, mTupRan_ap, fIsX_ap, ia_none_int, ia_none_bool, ia_none_list, ia_none_tuple, ia_none_str, ia_none_seq, ia_bool_int, ia_bool_bool, ia_bool_list, ia_bool_tuple, ia_bool_str, ia_bool_seq, ia_int_int, ia_int_bool, ia_int_list, ia_int_tuple, ia_int_str, ia_int_seq, ia_str_int, ia_str_bool, ia_str_list, ia_str_tuple, ia_str_str, ia_str_seq, ia_list_int, ia_list_bool, ia_list_list, ia_list_tuple, ia_list_str, ia_list_seq, ia_tuple_int, ia_tuple_bool, ia_tuple_list, ia_tuple_tuple, ia_tuple_str, ia_tuple_seq, mLst_ap, mTup_ap, mYes_ap, frz, frzAll, peek, res1, resAll, stoAll, argOf, argsOf, bors, wback, outAt, outsFrom, ownsStay, retv, wipeF, unwipe, sto, isNone, tyD, cY, cMul, cMod, cDiv, cPow, Cell.data, b2n, atI, ixN, fMulL, h1, rangeB]
  | .tuple [_], hd, hp, h1 => simp [bis_range, mVar_ap, mLit_ap, m2_ap, mB_ap, mAndT_ap, mOrT_ap, mNotT_ap, mAndV_ap, mOrV_ap, mNotV_ap, mIfE_ap, mNil_ap, mCons_ap, mDisp_ap, gSet_ap, gsNil_ap, gsCons_ap, gTupD_ap, mSet_ap, mAsg_ap, mPar_ap, mExpr_ap, mRet_ap, mRetN_ap, mNext_ap, mBreak_ap, mCont_ap, mSeq_ap, mIf_ap, iSeq_ap, iRan_ap, iZp_ap, mFor_ap, mWhile_ap, mCall_ap, mkD_ap, mLc_ap, fI_ap, fAdd_ap, fSub_ap, fMul_ap, fMod_ap, fDiv_ap, fPow_ap, fLt_ap, fLe_ap, fGt_ap, fGe_ap, fIsN_ap, fNotN_ap, fIsB_ap, fIx_ap, fAddX_ap, fSubX_ap, fMulX_ap, m1_ap, fNeg_ap, mB1_ap, fLen_ap, fAbs_ap, fInt_ap, fMin2_ap, fMax2_ap, fList_ap, fTuple_ap, fStr_ap, mMt_ap, mMtZ_ap, fAppend_ap, fInsert_ap, fPopAt_ap, oNone_ap, oSome_ap, mSl_ap, gIx_ap, mIsi_ap, fEqX_ap, fNeX_ap, fAll_ap, fAny_ap, fSum_ap, fSorted_ap, fBest_ap, fIdx_ap, fRepr_ap, mPermA_ap, fBack_ap, gSplice_ap, mSortSet_ap, fMulY_ap, mTupRan_ap, fIsX_ap, ia_none_int, ia_none_bool, ia_none_list, ia_none_tuple, ia_none_str, ia_none_seq, ia_bool_int, ia_bool_bool, ia_bool_list, ia_bool_tuple, ia_bool_str, ia_bool_seq, ia_int_int, ia_int_bool, ia_int_list, ia_int_tuple, ia_int_str, ia_int_seq, ia_str_int, ia_str_bool, ia_str_list, ia_str_tuple, ia_str_str, ia_str_seq, ia_list_int, ia_list_bool, ia_list_list, ia_list_tuple, ia_list_str, ia_list_seq, ia_tuple_int, ia_tuple_bool, ia_tuple_list, ia_tuple_tuple, ia_tuple_str, ia_tuple_seq, mLst_ap, mTup_ap, mYes_ap, frz, frzAll, peek, res1, resAll, stoAll, argOf, argsOf, bors, wback, outAt, outsFrom, ownsStay, retv, wipeF, unwipe, sto, isNone, tyD, cY, cMul, cMod, cDiv, cPow, Cell.data, b2n, atI, ixN, fMulL, h1, rangeB]
  | .tuple (_ :: _ :: _ :: _), hd, hp, h1 => simp [bis_range, mVar_ap, mLit_ap, m2_ap, mB_ap, mAndT_ap, mOrT_ap, mNotT_ap, mAndV_ap, mOrV_ap, mNotV_ap, mIfE_ap, mNil_ap, mCons_ap, mDisp_ap, gSet_ap, gsNil_ap, gsCons_ap, gTupD_ap, mSet_ap, mAsg_ap, mPar_ap, mExpr_ap, mRet_ap, mRetN_ap, mNext_ap, mBreak_ap, mCont_ap, mSeq_ap, mIf_ap, iSeq_ap, iRan_ap, iZp_ap, mFor_ap, mWhile_ap, mCall_ap, mkD_ap, mLc_ap, fI_ap, fAdd_ap, fSub_ap, fMul_ap, fMod_ap, fDiv_ap, fPow_ap, fLt_ap, fLe_ap, fGt_ap, fGe_ap, fIsN_ap, fNotN_ap, fIsB_ap, fIx_ap, fAddX_ap, fSubX_ap, fMulX_ap, m1_ap, fNeg_ap, mB1_ap, fLen_ap, fAbs_ap, fInt_ap, fMin2_ap, fMax2_ap, fList_ap, fTuple_ap, fStr_ap, mMt_ap, mMtZ_ap, fAppend_ap, fInsert_ap, fPopAt_ap, oNone_ap, oSome_ap, mSl_ap, gIx_ap, mIsi_ap, fEqX_ap, fNeX_ap, fAll_ap, fAny_ap, fSum_ap, fSorted_ap, fBest_ap, fIdx_ap, fRepr_ap, mPermA_ap, fBack_ap, gSplice_ap, mSortSet_ap, fMulY_ap, mTupRan_ap, fIsX_ap, ia_none_int, ia_none_bool, ia_none_list, ia_none_tuple, ia_none_str, ia_none_seq, ia_bool_int, ia_bool_bool, ia_bool_list, ia_bool_tuple, ia_bool_str, ia_bool_seq, ia_int_int, ia_int_bool, ia_int_list, ia_int_tuple, ia_int_str, ia_int_seq, ia_str_int, ia_str_bool, ia_str_list, ia_str_tuple, ia_str_str, ia_str_seq, ia_list_int, ia_list_bool, ia_list_list, ia_list_tuple, ia_list_str, ia_list_seq, ia_tuple_int, ia_tuple_bool, ia_tuple_list, ia_tuple_tuple, ia_tuple_str, ia_tuple_seq, mLst_ap, mTup_ap, mYes_ap, frz, frzAll, peek, res1, resAll, stoAll, argOf, argsOf, bors, wback, outAt, outsFrom, ownsStay, retv, wipeF, unwipe, sto, isNone, tyD, cY, cMul, cMod, cDiv, cPow, Cell.data, b2n, atI, ixN, fMulL, h1, rangeB]
  | .tuple [x, y], hd, hp, h1 =>
    have hx := hp _ rfl x (by simp)
    have hy := hp _ rfl y (by simp)
    have h2 := size_ok (n := n) (by omega) hx
    have h3 := size_ok (n := n) (by omega) hy
    simp [bis_range, mVar_ap, mLit_ap, m2_ap, mB_ap, mAndT_ap, mOrT_ap, mNotT_ap, mAndV_ap, mOrV_ap, mNotV_ap, mIfE_ap, mNil_ap, mCons_ap, mDisp_ap, gSet_ap, gsNil_ap, gsCons_ap, gTupD_ap, mSet_ap, mAsg_ap, mPar_ap, mExpr_ap, mRet_ap, mRetN_ap, mNext_ap, mBreak_ap, mCont_ap, mSeq_ap, mIf_ap, iSeq_ap, iRan_ap, iZp_ap, mFor_ap, mWhile_ap, mCall_ap, mkD_ap, mLc_ap, fI_ap, fAdd_ap, fSub_ap, fMul_ap, fMod_ap, fDiv_ap, fPow_ap, fLt_ap, fLe_ap, fGt_ap, fGe_ap, fIsN_ap, fNotN_ap, fIsB_ap, fIx_ap, fAddX_ap, fSubX_ap, fMulX_ap, m1_ap, fNeg_ap, mB1_ap, fLen_ap, fAbs_ap, fInt_ap, fMin2_ap, fMax2_ap, fList_ap, fTuple_ap, fStr_ap, mMt_ap, mMtZ_ap, fAppend_ap, fInsert_ap, fPopAt_ap, oNone_ap, oSome_ap, mSl_ap, gIx_ap, mIsi_ap, fEqX_ap, fNeX_ap, fAll_ap, fAny_ap, fSum_ap, fSorted_ap, fBest_ap, fIdx_ap, fRepr_ap, mPermA_ap, fBack_ap, gSplice_ap, mSortSet_ap, fMulY_ap, mTupRan_ap, fIsX_ap, ia_none_int, ia_none_bool, ia_none_list, ia_none_tuple, ia_none_str, ia_none_seq, ia_bool_int, ia_bool_bool, ia_bool_list, ia_bool_tuple, ia_bool_str, ia_bool_seq, ia_int_int, ia_int_bool, ia_int_list, ia_int_tuple, ia_int_str, ia_int_seq, ia_str_int, ia_str_bool, ia_str_list, ia_str_tuple, ia_str_str, ia_str_seq, ia_list_int, ia_list_bool, ia_list_list, ia_list_tuple, ia_list_str, ia_list_seq, ia_tuple_int, ia_tuple_bool, ia_tuple_list, ia_tuple_tuple, ia_tuple_str, ia_tuple_seq, mLst_ap, mTup_ap, mYes_ap, frz, frzAll, peek, res1, resAll, stoAll, argOf, argsOf, bors, wback, outAt, outsFrom, ownsStay, retv, wipeF, unwipe, sto, isNone, tyD, cY, cMul, cMod, cDiv, cPow, Cell.data, b2n, atI, ixN, fMulL, h1, h2]
    cases x <;> simp [sizeB, rangeB]
    rename_i i
    by_cases hi : 1 ≤ i
    case neg => cases y <;> simp [hi, mVar_ap, mLit_ap, m2_ap, mB_ap, mAndT_ap, mOrT_ap, mNotT_ap, mAndV_ap, mOrV_ap, mNotV_ap, mIfE_ap, mNil_ap, mCons_ap, mDisp_ap, gSet_ap, gsNil_ap, gsCons_ap, gTupD_ap, mSet_ap, mAsg_ap, mPar_ap, mExpr_ap, mRet_ap, mRetN_ap, mNext_ap, mBreak_ap, mCont_ap, mSeq_ap, mIf_ap, iSeq_ap, iRan_ap, iZp_ap, mFor_ap, mWhile_ap, mCall_ap, mkD_ap, mLc_ap, fI_ap, fAdd_ap, fSub_ap, fMul_ap, fMod_ap, fDiv_ap, fPow_ap, fLt_ap, fLe_ap, fGt_ap, fGe_ap, fIsN_ap, fNotN_ap, fIsB_ap, fIx_ap, fAddX_ap, fSubX_ap, fMulX_ap, m1_ap, fNeg_ap, mB1_ap, fLen_ap, fAbs_ap, fInt_ap, fMin2_ap, fMax2_ap, fList_ap, fTuple_ap, fStr_ap, mMt_ap, mMtZ_ap, fAppend_ap, fInsert_ap, fPopAt_ap, oNone_ap, oSome_ap, mSl_ap, gIx_ap, mIsi_ap, fEqX_ap, fNeX_ap, fAll_ap, fAny_ap, fSum_ap, fSorted_ap, fBest_ap, fIdx_ap, fRepr_ap, mPermA_ap, fBack_ap, gSplice_ap, mSortSet_ap, fMulY_ap, mTupRan_ap, fIsX_ap, ia_none_int, ia_none_bool, ia_none_list, ia_none_tuple, ia_none_str, ia_none_seq, ia_bool_int, ia_bool_bool, ia_bool_list, ia_bool_tuple, ia_bool_str, ia_bool_seq, ia_int_int, ia_int_bool, ia_int_list, ia_int_tuple, ia_int_str, ia_int_seq, ia_str_int, ia_str_bool, ia_str_list, ia_str_tuple, ia_str_str, ia_str_seq, ia_list_int, ia_list_bool, ia_list_list, ia_list_tuple, ia_list_str, ia_list_seq, ia_tuple_int, ia_tuple_bool, ia_tuple_list, ia_tuple_tuple, ia_tuple_str, ia_tuple_seq, mLst_ap, mTup_ap, mYes_ap, frz, frzAll, peek, res1, resAll, stoAll, argOf, argsOf, bors, wback, outAt, outsFrom, ownsStay, retv, wipeF, unwipe, sto, isNone, tyD, cY, cMul, cMod, cDiv, cPow, Cell.data, b2n, atI, ixN, fMulL]
    simp [hi, h3]
    cases y with
    | int j => by_cases hj : 1 ≤ j <;> simp [hj, hi, sizeB, rangeB, h3, mVar_ap, mLit_ap, m2_ap, mB_ap, mAndT_ap, mOrT_ap, mNotT_ap, mAndV_ap, mOrV_ap, mNotV_ap, mIfE_ap, mNil_ap, mCons_ap, mDisp_ap, gSet_ap, gsNil_ap, gsCons_ap, gTupD_ap, mSet_ap, mAsg_ap, mPar_ap, mExpr_ap, mRet_ap, mRetN_ap, mNext_ap, mBreak_ap, mCont_ap, mSeq_ap, mIf_ap, iSeq_ap, iRan_ap, iZp_ap, mFor_ap, mWhile_ap, mCall_ap, mkD_ap, mLc_ap, fI_ap, fAdd_ap, fSub_ap, fMul_ap, fMod_ap, fDiv_ap, fPow_ap, fLt_ap, fLe_ap, fGt_ap, fGe_ap, fIsN_ap, fNotN_ap, fIsB_ap, fIx_ap, fAddX_ap, fSubX_ap, fMulX_ap, m1_ap, fNeg_ap, mB1_ap, fLen_ap, fAbs_ap, fInt_ap, fMin2_ap, fMax2_ap, fList_ap, fTuple_ap, fStr_ap, mMt_ap, mMtZ_ap, fAppend_ap, fInsert_ap, fPopAt_ap, oNone_ap, oSome_ap, mSl_ap, gIx_ap, mIsi_ap, fEqX_ap, fNeX_ap, fAll_ap, fAny_ap, fSum_ap, fSorted_ap, fBest_ap, fIdx_ap, fRepr_ap, mPermA_ap, fBack_ap, gSplice_ap, mSortSet_ap, fMulY_ap, mTupRan_ap, fIsX_ap, ia_none_int, ia_none_bool, ia_none_list, ia_none_tuple, ia_none_str, ia_none_seq, ia_bool_int, ia_bool_bool, ia_bool_list, ia_bool_tuple, ia_bool_str, ia_bool_seq, ia_int_int, ia_int_bool, ia_int_list, ia_int_tuple, ia_int_str, ia_int_seq, ia_str_int, ia_str_bool, ia_str_list, ia_str_tuple, ia_str_str, ia_str_seq, ia_list_int, ia_list_bool, ia_list_list, ia_list_tuple, ia_list_str, ia_list_seq, ia_tuple_int, ia_tuple_bool, ia_tuple_list, ia_tuple_tuple, ia_tuple_str, ia_tuple_seq, mLst_ap, mTup_ap, mYes_ap, frz, frzAll, peek, res1, resAll, stoAll, argOf, argsOf, bors, wback, outAt, outsFrom, ownsStay, retv, wipeF, unwipe, sto, isNone, tyD, cY, cMul, cMod, cDiv, cPow, Cell.data, b2n, atI, ixN, fMulL]
    | _ => simp [sizeB, rangeB, hi, h3, mVar_ap, mLit_ap, m2_ap, mB_ap, mAndT_ap, mOrT_ap, mNotT_ap, mAndV_ap, mOrV_ap, mNotV_ap, mIfE_ap, mNil_ap, mCons_ap, mDisp_ap, gSet_ap, gsNil_ap, gsCons_ap, gTupD_ap, mSet_ap, mAsg_ap, mPar_ap, mExpr_ap, mRet_ap, mRetN_ap, mNext_ap, mBreak_ap, mCont_ap, mSeq_ap, mIf_ap, iSeq_ap, iRan_ap, iZp_ap, mFor_ap, mWhile_ap, mCall_ap, mkD_ap, mLc_ap, fI_ap, fAdd_ap, fSub_ap, fMul_ap, fMod_ap, fDiv_ap, fPow_ap, fLt_ap, fLe_ap, fGt_ap, fGe_ap, fIsN_ap, fNotN_ap, fIsB_ap, fIx_ap, fAddX_ap, fSubX_ap, fMulX_ap, m1_ap, fNeg_ap, mB1_ap, fLen_ap, fAbs_ap, fInt_ap, fMin2_ap, fMax2_ap, fList_ap, fTuple_ap, fStr_ap, mMt_ap, mMtZ_ap, fAppend_ap, fInsert_ap, fPopAt_ap, oNone_ap, oSome_ap, mSl_ap, gIx_ap, mIsi_ap, fEqX_ap, fNeX_ap, fAll_ap, fAny_ap, fSum_ap, fSorted_ap, fBest_ap, fIdx_ap, fRepr_ap, mPermA_ap, fBack_ap, gSplice_ap, mSortSet_ap, fMulY_ap, mTupRan_ap, fIsX_ap, ia_none_int, ia_none_bool, ia_none_list, ia_none_tuple, ia_none_str, ia_none_seq, ia_bool_int, ia_bool_bool, ia_bool_list, ia_bool_tuple, ia_bool_str, ia_bool_seq, ia_int_int, ia_int_bool, ia_int_list, ia_int_tuple, ia_int_str, ia_int_seq, ia_str_int, ia_str_bool, ia_str_list, ia_str_tuple, ia_str_str, ia_str_seq, ia_list_int, ia_list_bool, ia_list_list, ia_list_tuple, ia_list_str, ia_list_seq, ia_tuple_int, ia_tuple_bool, ia_tuple_list, ia_tuple_tuple, ia_tuple_str, ia_tuple_seq, mLst_ap, mTup_ap, mYes_ap, frz, frzAll, peek, res1, resAll, stoAll, argOf, argsOf, bors, wback, outAt, outsFrom, ownsStay, retv, wipeF, unwipe, sto, isNone, tyD, cY, cMul, cMod, cDiv, cPow, Cell.data, b2n, atI, ixN, fMulL]
theorem zip_asc (i : Nat) : ∀ ns : List Int, ∀ (es : List PyData), es = ns.map PyData.int → (zip2 es es.tail).map (fun d => match d with
    | .tuple [.int a, .int b] => PyData.bool (decide (a < b))
    | _ => .none) = (List.zipWith (fun a b => decide (a < b)) ns ns.tail).map PyData.bool
  | [], _, e => by subst e; rfl
  | [x], _, e => by subst e; rfl
  | x :: y :: r, _, e => by
    subst e
    have ih := zip_asc i (y :: r) _ rfl
    simp only [List.map_cons, List.tail_cons, zip2, List.zipWith_cons_cons] at ih ⊢
    rw [ih]
theorem all_asc : ∀ ns : List Int, (List.zipWith (fun a b => decide (a < b)) ns ns.tail).all id = asc ns
  | [] => rfl
  | [x] => rfl
  | x :: y :: r => by
    have ih := all_asc (y :: r)
    simp only [List.tail_cons, List.zipWith_cons_cons, List.all_cons, asc, id] at ih ⊢
    rw [ih]
theorem zip2_mem {x : PyData} : ∀ {as bs : List PyData}, x ∈ zip2 as bs → ∃ a b, x = .tuple [a, b] ∧ a ∈ as ∧ b ∈ bs
  | [], _, h => by simp [zip2] at h
  | _ :: _, [], h => by simp [zip2] at h
  | a :: as, b :: bs, h => by
    simp only [zip2] at h
    rcases List.mem_cons.1 h with h | h
    · exact ⟨a, b, h, by simp, by simp⟩
    · obtain ⟨a', b', e, h1, h2⟩ := zip2_mem h
      exact ⟨a', b', e, by simp [h1], by simp [h2]⟩
theorem zip2_len : ∀ as bs : List PyData, (zip2 as bs).length ≤ as.length
  | [], _ => by simp [zip2]
  | _ :: _, [] => by simp [zip2]
  | a :: as, b :: bs => by have := zip2_len as bs; simp [zip2]; omega
theorem cut_tail (ds : List PyData) : cutD ds (some 1) none = ds.tail := by
  cases ds with
  | nil => rfl
  | cons d ds =>
    have h : HT.sIx (ds.length + 1) 0 (some 1) = 1 := by simp [HT.sIx]; try omega
    have h2 : HT.sIx (ds.length + 1) (ds.length + 1) none = ds.length + 1 := by simp [HT.sIx]
    simp [Rf.cutD, h, h2]
theorem ascending_ok {n : Nat} (hn : 1 ≤ n) (ns : List Int) (hl : ns.length ≤ 1000) : Dis_ascending n [.dat (.tuple (ns.map .int))] = some (.dat (.bool (asc ns)), [.dat (.tuple (ns.map .int))]) := by
  obtain ⟨n, rfl⟩ : ∃ m, n = m + 1 := ⟨n - 1, by omega⟩
  rw [eis_ascending]
  have hc := compM_map (g := gTupD 2 (gsCons (gSet 1) (gsCons (gSet 2) gsNil))) (me := m2 fLt (mVar 1) (mVar 2)) (vs := [1, 2]) (fun d => match d with
    | .tuple [.int a, .int b] => PyData.bool (decide (a < b))
    | _ => .none) [some (.dat (.tuple (ns.map .int))), none, none] (zip2 (ns.map .int) (ns.map PyData.int).tail) [] (fun d m => by
      obtain ⟨a, b, rfl, ha, hb⟩ := zip2_mem m
      obtain ⟨i, _, rfl⟩ := List.mem_map.1 ha
      obtain ⟨j, _, rfl⟩ := List.mem_map.1 (List.mem_of_mem_tail hb)
      exact ⟨[some (.dat (.tuple (ns.map .int))), some (.dat (.int i)), some (.dat (.int j))], .dat (.bool (decide (i < j))), [some (.dat (.tuple (ns.map .int))), some (.dat (.int i)), some (.dat (.int j))], [some (.dat (.tuple (ns.map .int))), some (.dat (.int i)), some (.dat (.int j))], rfl, by simp [mVar_ap, mLit_ap, m2_ap, mB_ap, mAndT_ap, mOrT_ap, mNotT_ap, mAndV_ap, mOrV_ap, mNotV_ap, mIfE_ap, mNil_ap, mCons_ap, mDisp_ap, gSet_ap, gsNil_ap, gsCons_ap, gTupD_ap, mSet_ap, mAsg_ap, mPar_ap, mExpr_ap, mRet_ap, mRetN_ap, mNext_ap, mBreak_ap, mCont_ap, mSeq_ap, mIf_ap, iSeq_ap, iRan_ap, iZp_ap, mFor_ap, mWhile_ap, mCall_ap, mkD_ap, mLc_ap, fI_ap, fAdd_ap, fSub_ap, fMul_ap, fMod_ap, fDiv_ap, fPow_ap, fLt_ap, fLe_ap, fGt_ap, fGe_ap, fIsN_ap, fNotN_ap, fIsB_ap, fIx_ap, fAddX_ap, fSubX_ap, fMulX_ap, m1_ap, fNeg_ap, mB1_ap, fLen_ap, fAbs_ap, fInt_ap, fMin2_ap, fMax2_ap, fList_ap, fTuple_ap, fStr_ap, mMt_ap, mMtZ_ap, fAppend_ap, fInsert_ap, fPopAt_ap, oNone_ap, oSome_ap, mSl_ap, gIx_ap, mIsi_ap, fEqX_ap, fNeX_ap, fAll_ap, fAny_ap, fSum_ap, fSorted_ap, fBest_ap, fIdx_ap, fRepr_ap, mPermA_ap, fBack_ap, gSplice_ap, mSortSet_ap, fMulY_ap, mTupRan_ap, fIsX_ap, ia_none_int, ia_none_bool, ia_none_list, ia_none_tuple, ia_none_str, ia_none_seq, ia_bool_int, ia_bool_bool, ia_bool_list, ia_bool_tuple, ia_bool_str, ia_bool_seq, ia_int_int, ia_int_bool, ia_int_list, ia_int_tuple, ia_int_str, ia_int_seq, ia_str_int, ia_str_bool, ia_str_list, ia_str_tuple, ia_str_str, ia_str_seq, ia_list_int, ia_list_bool, ia_list_list, ia_list_tuple, ia_list_str, ia_list_seq, ia_tuple_int, ia_tuple_bool, ia_tuple_list, ia_tuple_tuple, ia_tuple_str, ia_tuple_seq, mLst_ap, mTup_ap, mYes_ap, frz, frzAll, peek, res1, resAll, stoAll, argOf, argsOf, bors, wback, outAt, outsFrom, ownsStay, retv, wipeF, unwipe, sto, isNone, tyD, cY, cMul, cMod, cDiv, cPow, Cell.data, b2n, atI, ixN, fMulL], rfl, by simp [wipeF]⟩) (by
      have := zip2_len (ns.map PyData.int) (ns.map PyData.int).tail
      have h3 : sizeLine = 16777216 := rfl
      simp at this ⊢; omega)
  rw [zip_asc 0 ns _ rfl] at hc
  have hb := boolsD_map id (List.zipWith (fun a b => decide (a < b)) ns ns.tail)
  simp only [id, List.nil_append] at hb hc
  have h4 : (fun x : Bool => PyData.bool x) = PyData.bool := rfl
  rw [h4] at hb
  have h5 := all_asc ns
  revert hb hc h5
  generalize List.zipWith (fun a b => decide (a < b)) ns ns.tail = bs
  intro hc hb h5
  simp [bis_ascending, mVar_ap, mLit_ap, m2_ap, mB_ap, mAndT_ap, mOrT_ap, mNotT_ap, mAndV_ap, mOrV_ap, mNotV_ap, mIfE_ap, mNil_ap, mCons_ap, mDisp_ap, gSet_ap, gsNil_ap, gsCons_ap, gTupD_ap, mSet_ap, mAsg_ap, mPar_ap, mExpr_ap, mRet_ap, mRetN_ap, mNext_ap, mBreak_ap, mCont_ap, mSeq_ap, mIf_ap, iSeq_ap, iRan_ap, iZp_ap, mFor_ap, mWhile_ap, mCall_ap, mkD_ap, mLc_ap, fI_ap, fAdd_ap, fSub_ap, fMul_ap, fMod_ap, fDiv_ap, fPow_ap, fLt_ap, fLe_ap, fGt_ap, fGe_ap, fIsN_ap, fNotN_ap, fIsB_ap, fIx_ap, fAddX_ap, fSubX_ap, fMulX_ap, m1_ap, fNeg_ap, mB1_ap, fLen_ap, fAbs_ap, fInt_ap, fMin2_ap, fMax2_ap, fList_ap, fTuple_ap, fStr_ap, mMt_ap, mMtZ_ap, fAppend_ap, fInsert_ap, fPopAt_ap, oNone_ap, oSome_ap, mSl_ap, gIx_ap, mIsi_ap, fEqX_ap, fNeX_ap, fAll_ap, fAny_ap, fSum_ap, fSorted_ap, fBest_ap, fIdx_ap, fRepr_ap, mPermA_ap, fBack_ap, gSplice_ap, mSortSet_ap, fMulY_ap, mTupRan_ap, fIsX_ap, ia_none_int, ia_none_bool, ia_none_list, ia_none_tuple, ia_none_str, ia_none_seq, ia_bool_int, ia_bool_bool, ia_bool_list, ia_bool_tuple, ia_bool_str, ia_bool_seq, ia_int_int, ia_int_bool, ia_int_list, ia_int_tuple, ia_int_str, ia_int_seq, ia_str_int, ia_str_bool, ia_str_list, ia_str_tuple, ia_str_str, ia_str_seq, ia_list_int, ia_list_bool, ia_list_list, ia_list_tuple, ia_list_str, ia_list_seq, ia_tuple_int, ia_tuple_bool, ia_tuple_list, ia_tuple_tuple, ia_tuple_str, ia_tuple_seq, mLst_ap, mTup_ap, mYes_ap, frz, frzAll, peek, res1, resAll, stoAll, argOf, argsOf, bors, wback, outAt, outsFrom, ownsStay, retv, wipeF, unwipe, sto, isNone, tyD, cY, cMul, cMod, cDiv, cPow, Cell.data, b2n, atI, ixN, fMulL, cut_tail, hc, hb]
  exact h5
end Lk01

namespace Lk01
open PySem PySem.Spec PyProof.Rows L2 Rf
theorem sizeLine_v : sizeLine = 16777216 := rfl
theorem shaped_int (i : Int) : SeqAt.shaped (.int i) = true := by simp [SeqAt.shaped, PyData.canLay0, PyData.depth]
theorem eqv_int (i j : Int) : PyData.eqv (.int i) (.int j) = decide (i = j) := by simp only [PyData.eqv]; rfl
theorem boolsD_all (f : PyData → Bool) (ds : List PyData) : boolsD (ds.map fun d => PyData.bool (f d)) = some (ds.map f) := boolsD_map f ds
theorem all_map (f : PyData → Bool) (ds : List PyData) : (ds.map f).all id = ds.all f := by
  induction ds with
  | nil => rfl
  | cons d ds ih => simp only [List.map_cons, List.all_cons, ih, id]
theorem ints_of_sizes : ∀ {ds : List PyData}, ds.all sizeB = true → ∃ ns : List Int, ds = ns.map .int ∧ ns.all (fun i => decide (1 ≤ i)) = true
  | [], _ => ⟨[], rfl, rfl⟩
  | d :: ds, h => by
    simp only [List.all_cons, Bool.and_eq_true] at h
    obtain ⟨ns, e, hn⟩ := ints_of_sizes h.2
    cases d with
    | int i => exact ⟨i :: ns, by simp [e], by simp only [List.all_cons, Bool.and_eq_true]; exact ⟨h.1, hn⟩⟩
    | _ => simp [sizeB] at h
theorem sizes_ok {n : Nat} (hn : 3 ≤ n) {d : PyData} (hd : plainD d = true) (hp : ∀ ds, d = .tuple ds → ds.length ≤ 1000 ∧ ∀ x ∈ ds, plainD x = true) : Dare_sizes n [.dat d] = some (.dat (.bool (sizesB d)), [.dat d]) := by
  obtain ⟨n, rfl⟩ : ∃ m, n = m + 1 := ⟨n - 1, by omega⟩
  rw [eare_sizes]
  match d, hd, hp with
  | .none, _, _ => simp [bare_sizes, mVar_ap, mLit_ap, m2_ap, mB_ap, mAndT_ap, mOrT_ap, mNotT_ap, mAndV_ap, mOrV_ap, mNotV_ap, mIfE_ap, mNil_ap, mCons_ap, mDisp_ap, gSet_ap, gsNil_ap, gsCons_ap, gTupD_ap, mSet_ap, mAsg_ap, mPar_ap, mExpr_ap, mRet_ap, mRetN_ap, mNext_ap, mBreak_ap, mCont_ap, mSeq_ap, mIf_ap, iSeq_ap, iRan_ap, iZp_ap, mFor_ap, mWhile_ap, mCall_ap, mkD_ap, mLc_ap, fI_ap, fAdd_ap, fSub_ap, fMul_ap, fMod_ap, fDiv_ap, fPow_ap, fLt_ap, fLe_ap, fGt_ap, fGe_ap, fIsN_ap, fNotN_ap, fIsB_ap, fIx_ap, fAddX_ap, fSubX_ap, fMulX_ap, m1_ap, fNeg_ap, mB1_ap, fLen_ap, fAbs_ap, fInt_ap, fMin2_ap, fMax2_ap, fList_ap, fTuple_ap, fStr_ap, mMt_ap, mMtZ_ap, fAppend_ap, fInsert_ap, fPopAt_ap, oNone_ap, oSome_ap, mSl_ap, gIx_ap, mIsi_ap, fEqX_ap, fNeX_ap, fAll_ap, fAny_ap, fSum_ap, fSorted_ap, fBest_ap, fIdx_ap, fRepr_ap, mPermA_ap, fBack_ap, gSplice_ap, mSortSet_ap, fMulY_ap, mTupRan_ap, fIsX_ap, ia_none_int, ia_none_bool, ia_none_list, ia_none_tuple, ia_none_str, ia_none_seq, ia_bool_int, ia_bool_bool, ia_bool_list, ia_bool_tuple, ia_bool_str, ia_bool_seq, ia_int_int, ia_int_bool, ia_int_list, ia_int_tuple, ia_int_str, ia_int_seq, ia_str_int, ia_str_bool, ia_str_list, ia_str_tuple, ia_str_str, ia_str_seq, ia_list_int, ia_list_bool, ia_list_list, ia_list_tuple, ia_list_str, ia_list_seq, ia_tuple_int, ia_tuple_bool, ia_tuple_list, ia_tuple_tuple, ia_tuple_str, ia_tuple_seq, mLst_ap, mTup_ap, mYes_ap, frz, frzAll, peek, res1, resAll, stoAll, argOf, argsOf, bors, wback, outAt, outsFrom, ownsStay, retv, wipeF, unwipe, sto, isNone, tyD, cY, cMul, cMod, cDiv, cPow, Cell.data, b2n, atI, ixN, fMulL, sizesB]
  | .bool _, _, _ => simp [bare_sizes, mVar_ap, mLit_ap, m2_ap, mB_ap, mAndT_ap, mOrT_ap, mNotT_ap, mAndV_ap, mOrV_ap, mNotV_ap, mIfE_ap, mNil_ap, mCons_ap, mDisp_ap, gSet_ap, gsNil_ap, gsCons_ap, gTupD_ap, mSet_ap, mAsg_ap, mPar_ap, mExpr_ap, mRet_ap, mRetN_ap, mNext_ap, mBreak_ap, mCont_ap, mSeq_ap, mIf_ap, iSeq_ap, iRan_ap, iZp_ap, mFor_ap, mWhile_ap, mCall_ap, mkD_ap, mLc_ap, fI_ap, fAdd_ap, fSub_ap, fMul_ap, fMod_ap, fDiv_ap, fPow_ap, fLt_ap, fLe_ap, fGt_ap, fGe_ap, fIsN_ap, fNotN_ap, fIsB_ap, fIx_ap, fAddX_ap, fSubX_ap, fMulX_ap, m1_ap, fNeg_ap, mB1_ap, fLen_ap, fAbs_ap, fInt_ap, fMin2_ap, fMax2_ap, fList_ap, fTuple_ap, fStr_ap, mMt_ap, mMtZ_ap, fAppend_ap, fInsert_ap, fPopAt_ap, oNone_ap, oSome_ap, mSl_ap, gIx_ap, mIsi_ap, fEqX_ap, fNeX_ap, fAll_ap, fAny_ap, fSum_ap, fSorted_ap, fBest_ap, fIdx_ap, fRepr_ap, mPermA_ap, fBack_ap, gSplice_ap, mSortSet_ap, fMulY_ap, mTupRan_ap, fIsX_ap, ia_none_int, ia_none_bool, ia_none_list, ia_none_tuple, ia_none_str, ia_none_seq, ia_bool_int, ia_bool_bool, ia_bool_list, ia_bool_tuple, ia_bool_str, ia_bool_seq, ia_int_int, ia_int_bool, ia_int_list, ia_int_tuple, ia_int_str, ia_int_seq, ia_str_int, ia_str_bool, ia_str_list, ia_str_tuple, ia_str_str, ia_str_seq, ia_list_int, ia_list_bool, ia_list_list, ia_list_tuple, ia_list_str, ia_list_seq, ia_tuple_int, ia_tuple_bool, ia_tuple_list, ia_tuple_tuple, ia_tuple_str, ia_tuple_seq, mLst_ap, mTup_ap, mYes_ap, frz, frzAll, peek, res1, resAll, stoAll, argOf, argsOf, bors, wback, outAt, outsFrom, ownsStay, retv, wipeF, unwipe, sto, isNone, tyD, cY, cMul, cMod, cDiv, cPow, Cell.data, b2n, atI, ixN, fMulL, sizesB]
  | .int _, _, _ => simp [bare_sizes, mVar_ap, mLit_ap, m2_ap, mB_ap, mAndT_ap, mOrT_ap, mNotT_ap, mAndV_ap, mOrV_ap, mNotV_ap, mIfE_ap, mNil_ap, mCons_ap, mDisp_ap, gSet_ap, gsNil_ap, gsCons_ap, gTupD_ap, mSet_ap, mAsg_ap, mPar_ap, mExpr_ap, mRet_ap, mRetN_ap, mNext_ap, mBreak_ap, mCont_ap, mSeq_ap, mIf_ap, iSeq_ap, iRan_ap, iZp_ap, mFor_ap, mWhile_ap, mCall_ap, mkD_ap, mLc_ap, fI_ap, fAdd_ap, fSub_ap, fMul_ap, fMod_ap, fDiv_ap, fPow_ap, fLt_ap, fLe_ap, fGt_ap, fGe_ap, fIsN_ap, fNotN_ap, fIsB_ap, fIx_ap, fAddX_ap, fSubX_ap, fMulX_ap, m1_ap, fNeg_ap, mB1_ap, fLen_ap, fAbs_ap, fInt_ap, fMin2_ap, fMax2_ap, fList_ap, fTuple_ap, fStr_ap, mMt_ap, mMtZ_ap, fAppend_ap, fInsert_ap, fPopAt_ap, oNone_ap, oSome_ap, mSl_ap, gIx_ap, mIsi_ap, fEqX_ap, fNeX_ap, fAll_ap, fAny_ap, fSum_ap, fSorted_ap, fBest_ap, fIdx_ap, fRepr_ap, mPermA_ap, fBack_ap, gSplice_ap, mSortSet_ap, fMulY_ap, mTupRan_ap, fIsX_ap, ia_none_int, ia_none_bool, ia_none_list, ia_none_tuple, ia_none_str, ia_none_seq, ia_bool_int, ia_bool_bool, ia_bool_list, ia_bool_tuple, ia_bool_str, ia_bool_seq, ia_int_int, ia_int_bool, ia_int_list, ia_int_tuple, ia_int_str, ia_int_seq, ia_str_int, ia_str_bool, ia_str_list, ia_str_tuple, ia_str_str, ia_str_seq, ia_list_int, ia_list_bool, ia_list_list, ia_list_tuple, ia_list_str, ia_list_seq, ia_tuple_int, ia_tuple_bool, ia_tuple_list, ia_tuple_tuple, ia_tuple_str, ia_tuple_seq, mLst_ap, mTup_ap, mYes_ap, frz, frzAll, peek, res1, resAll, stoAll, argOf, argsOf, bors, wback, outAt, outsFrom, ownsStay, retv, wipeF, unwipe, sto, isNone, tyD, cY, cMul, cMod, cDiv, cPow, Cell.data, b2n, atI, ixN, fMulL, sizesB]
  | .str _, _, _ => simp [bare_sizes, mVar_ap, mLit_ap, m2_ap, mB_ap, mAndT_ap, mOrT_ap, mNotT_ap, mAndV_ap, mOrV_ap, mNotV_ap, mIfE_ap, mNil_ap, mCons_ap, mDisp_ap, gSet_ap, gsNil_ap, gsCons_ap, gTupD_ap, mSet_ap, mAsg_ap, mPar_ap, mExpr_ap, mRet_ap, mRetN_ap, mNext_ap, mBreak_ap, mCont_ap, mSeq_ap, mIf_ap, iSeq_ap, iRan_ap, iZp_ap, mFor_ap, mWhile_ap, mCall_ap, mkD_ap, mLc_ap, fI_ap, fAdd_ap, fSub_ap, fMul_ap, fMod_ap, fDiv_ap, fPow_ap, fLt_ap, fLe_ap, fGt_ap, fGe_ap, fIsN_ap, fNotN_ap, fIsB_ap, fIx_ap, fAddX_ap, fSubX_ap, fMulX_ap, m1_ap, fNeg_ap, mB1_ap, fLen_ap, fAbs_ap, fInt_ap, fMin2_ap, fMax2_ap, fList_ap, fTuple_ap, fStr_ap, mMt_ap, mMtZ_ap, fAppend_ap, fInsert_ap, fPopAt_ap, oNone_ap, oSome_ap, mSl_ap, gIx_ap, mIsi_ap, fEqX_ap, fNeX_ap, fAll_ap, fAny_ap, fSum_ap, fSorted_ap, fBest_ap, fIdx_ap, fRepr_ap, mPermA_ap, fBack_ap, gSplice_ap, mSortSet_ap, fMulY_ap, mTupRan_ap, fIsX_ap, ia_none_int, ia_none_bool, ia_none_list, ia_none_tuple, ia_none_str, ia_none_seq, ia_bool_int, ia_bool_bool, ia_bool_list, ia_bool_tuple, ia_bool_str, ia_bool_seq, ia_int_int, ia_int_bool, ia_int_list, ia_int_tuple, ia_int_str, ia_int_seq, ia_str_int, ia_str_bool, ia_str_list, ia_str_tuple, ia_str_str, ia_str_seq, ia_list_int, ia_list_bool, ia_list_list, ia_list_tuple, ia_list_str, ia_list_seq, ia_tuple_int, ia_tuple_bool, ia_tuple_list, ia_tuple_tuple, ia_tuple_str, ia_tuple_seq, mLst_ap, mTup_ap, mYes_ap, frz, frzAll, peek, res1, resAll, stoAll, argOf, argsOf, bors, wback, outAt, outsFrom, ownsStay, retv, wipeF, unwipe, sto, isNone, tyD, cY, cMul, cMod, cDiv, cPow, Cell.data, b2n, atI, ixN, fMulL, sizesB]
  | .list _, _, _ => simp [bare_sizes, mVar_ap, mLit_ap, m2_ap, mB_ap, mAndT_ap, mOrT_ap, mNotT_ap, mAndV_ap, mOrV_ap, mNotV_ap, mIfE_ap, mNil_ap, mCons_ap, mDisp_ap, gSet_ap, gsNil_ap, gsCons_ap, gTupD_ap, mSet_ap, mAsg_ap, mPar_ap, mExpr_ap, mRet_ap, mRetN_ap, mNext_ap, mBreak_ap, mCont_ap, mSeq_ap, mIf_ap, iSeq_ap, iRan_ap, iZp_ap, mFor_ap, mWhile_ap, mCall_ap, mkD_ap, mLc_ap, fI_ap, fAdd_ap, fSub_ap, fMul_ap, fMod_ap, fDiv_ap, fPow_ap, fLt_ap, fLe_ap, fGt_ap, fGe_ap, fIsN_ap, fNotN_ap, fIsB_ap, fIx_ap, fAddX_ap, fSubX_ap, fMulX_ap, m1_ap, fNeg_ap, mB1_ap, fLen_ap, fAbs_ap, fInt_ap, fMin2_ap, fMax2_ap, fList_ap, fTuple_ap, fStr_ap, mMt_ap, mMtZ_ap, fAppend_ap, fInsert_ap, fPopAt_ap, oNone_ap, oSome_ap, mSl_ap, gIx_ap, mIsi_ap, fEqX_ap, fNeX_ap, fAll_ap, fAny_ap, fSum_ap, fSorted_ap, fBest_ap, fIdx_ap, fRepr_ap, mPermA_ap, fBack_ap, gSplice_ap, mSortSet_ap, fMulY_ap, mTupRan_ap, fIsX_ap, ia_none_int, ia_none_bool, ia_none_list, ia_none_tuple, ia_none_str, ia_none_seq, ia_bool_int, ia_bool_bool, ia_bool_list, ia_bool_tuple, ia_bool_str, ia_bool_seq, ia_int_int, ia_int_bool, ia_int_list, ia_int_tuple, ia_int_str, ia_int_seq, ia_str_int, ia_str_bool, ia_str_list, ia_str_tuple, ia_str_str, ia_str_seq, ia_list_int, ia_list_bool, ia_list_list, ia_list_tuple, ia_list_str, ia_list_seq, ia_tuple_int, ia_tuple_bool, ia_tuple_list, ia_tuple_tuple, ia_tuple_str, ia_tuple_seq, mLst_ap, mTup_ap, mYes_ap, frz, frzAll, peek, res1, resAll, stoAll, argOf, argsOf, bors, wback, outAt, outsFrom, ownsStay, retv, wipeF, unwipe, sto, isNone, tyD, cY, cMul, cMod, cDiv, cPow, Cell.data, b2n, atI, ixN, fMulL, sizesB]
  | .tuple [], _, _ => simp [bare_sizes, mVar_ap, mLit_ap, m2_ap, mB_ap, mAndT_ap, mOrT_ap, mNotT_ap, mAndV_ap, mOrV_ap, mNotV_ap, mIfE_ap, mNil_ap, mCons_ap, mDisp_ap, gSet_ap, gsNil_ap, gsCons_ap, gTupD_ap, mSet_ap, mAsg_ap, mPar_ap, mExpr_ap, mRet_ap, mRetN_ap, mNext_ap, mBreak_ap, mCont_ap, mSeq_ap, mIf_ap, iSeq_ap, iRan_ap, iZp_ap, mFor_ap, mWhile_ap, mCall_ap, mkD_ap, mLc_ap, fI_ap, fAdd_ap, fSub_ap, fMul_ap, fMod_ap, fDiv_ap, fPow_ap, fLt_ap, fLe_ap, fGt_ap, fGe_ap, fIsN_ap, fNotN_ap, fIsB_ap, fIx_ap, fAddX_ap, fSubX_ap, fMulX_ap, m1_ap, fNeg_ap, mB1_ap, fLen_ap, fAbs_ap, fInt_ap, fMin2_ap, fMax2_ap, fList_ap, fTuple_ap, fStr_ap, mMt_ap, mMtZ_ap, fAppend_ap, fInsert_ap, fPopAt_ap, oNone_ap, oSome_ap, mSl_ap, gIx_ap, mIsi_ap, fEqX_ap, fNeX_ap, fAll_ap, fAny_ap, fSum_ap, fSorted_ap, fBest_ap, fIdx_ap, fRepr_ap, mPermA_ap, fBack_ap, gSplice_ap, mSortSet_ap, fMulY_ap, mTupRan_ap, fIsX_ap, ia_none_int, ia_none_bool, ia_none_list, ia_none_tuple, ia_none_str, ia_none_seq, ia_bool_int, ia_bool_bool, ia_bool_list, ia_bool_tuple, ia_bool_str, ia_bool_seq, ia_int_int, ia_int_bool, ia_int_list, ia_int_tuple, ia_int_str, ia_int_seq, ia_str_int, ia_str_bool, ia_str_list, ia_str_tuple, ia_str_str, ia_str_seq, ia_list_int, ia_list_bool, ia_list_list, ia_list_tuple, ia_list_str, ia_list_seq, ia_tuple_int, ia_tuple_bool, ia_tuple_list, ia_tuple_tuple, ia_tuple_str, ia_tuple_seq, mLst_ap, mTup_ap, mYes_ap, frz, frzAll, peek, res1, resAll, stoAll, argOf, argsOf, bors, wback, outAt, outsFrom, ownsStay, retv, wipeF, unwipe, sto, isNone, tyD, cY, cMul, cMod, cDiv, cPow, Cell.data, b2n, atI, ixN, fMulL, sizesB, shaped_int, eqv_int]
  | .tuple (e :: es), _, hp =>
    obtain ⟨hl, hx⟩ := hp _ rfl
    have hc := compM_map (g := gSet 1) (me := mCall (Dis_size n) (mCons (mVar 1) mNil)) (vs := [1]) (fun d => PyData.bool (sizeB d)) [some (.dat (.tuple (e :: es))), none] (e :: es) [] (fun d m => by
      have h2 := size_ok (n := n) (by omega) (hx d m)
      exact ⟨[some (.dat (.tuple (e :: es))), some (.dat d)], .dat (.bool (sizeB d)), [some (.dat (.tuple (e :: es))), some (.dat d)], [some (.dat (.tuple (e :: es))), some (.dat d)], rfl, by simp [mVar_ap, mLit_ap, m2_ap, mB_ap, mAndT_ap, mOrT_ap, mNotT_ap, mAndV_ap, mOrV_ap, mNotV_ap, mIfE_ap, mNil_ap, mCons_ap, mDisp_ap, gSet_ap, gsNil_ap, gsCons_ap, gTupD_ap, mSet_ap, mAsg_ap, mPar_ap, mExpr_ap, mRet_ap, mRetN_ap, mNext_ap, mBreak_ap, mCont_ap, mSeq_ap, mIf_ap, iSeq_ap, iRan_ap, iZp_ap, mFor_ap, mWhile_ap, mCall_ap, mkD_ap, mLc_ap, fI_ap, fAdd_ap, fSub_ap, fMul_ap, fMod_ap, fDiv_ap, fPow_ap, fLt_ap, fLe_ap, fGt_ap, fGe_ap, fIsN_ap, fNotN_ap, fIsB_ap, fIx_ap, fAddX_ap, fSubX_ap, fMulX_ap, m1_ap, fNeg_ap, mB1_ap, fLen_ap, fAbs_ap, fInt_ap, fMin2_ap, fMax2_ap, fList_ap, fTuple_ap, fStr_ap, mMt_ap, mMtZ_ap, fAppend_ap, fInsert_ap, fPopAt_ap, oNone_ap, oSome_ap, mSl_ap, gIx_ap, mIsi_ap, fEqX_ap, fNeX_ap, fAll_ap, fAny_ap, fSum_ap, fSorted_ap, fBest_ap, fIdx_ap, fRepr_ap, mPermA_ap, fBack_ap, gSplice_ap, mSortSet_ap, fMulY_ap, mTupRan_ap, fIsX_ap, ia_none_int, ia_none_bool, ia_none_list, ia_none_tuple, ia_none_str, ia_none_seq, ia_bool_int, ia_bool_bool, ia_bool_list, ia_bool_tuple, ia_bool_str, ia_bool_seq, ia_int_int, ia_int_bool, ia_int_list, ia_int_tuple, ia_int_str, ia_int_seq, ia_str_int, ia_str_bool, ia_str_list, ia_str_tuple, ia_str_str, ia_str_seq, ia_list_int, ia_list_bool, ia_list_list, ia_list_tuple, ia_list_str, ia_list_seq, ia_tuple_int, ia_tuple_bool, ia_tuple_list, ia_tuple_tuple, ia_tuple_str, ia_tuple_seq, mLst_ap, mTup_ap, mYes_ap, frz, frzAll, peek, res1, resAll, stoAll, argOf, argsOf, bors, wback, outAt, outsFrom, ownsStay, retv, wipeF, unwipe, sto, isNone, tyD, cY, cMul, cMod, cDiv, cPow, Cell.data, b2n, atI, ixN, fMulL, h2], rfl, by simp [wipeF]⟩) (by
      rw [sizeLine_v]; simp at hl ⊢; omega)
    have hb := boolsD_all sizeB (e :: es)
    have ha := all_map sizeB (e :: es)
    by_cases hs : (e :: es).all sizeB = true
    · obtain ⟨ns, e1, _⟩ := ints_of_sizes hs
      have h3 := ascending_ok (n := n) (by omega) ns (by have := congrArg List.length e1; simp at this hl; omega)
      rw [← e1] at h3
      have h4 : ascB (e :: es) = asc ns := by rw [e1]; simp only [ascB, intsD_map]
      have h5 : sizesB (.tuple (e :: es)) = asc ns := by simp only [sizesB, hs, h4]; simp
      rw [h5]
      have h6 : ¬ ((es.length : Int) + 1 = 0) := by omega
      simp only [bare_sizes]
      simp [mVar_ap, mLit_ap, m2_ap, mB_ap, mAndT_ap, mOrT_ap, mNotT_ap, mAndV_ap, mOrV_ap, mNotV_ap, mIfE_ap, mNil_ap, mCons_ap, mDisp_ap, gSet_ap, gsNil_ap, gsCons_ap, gTupD_ap, mSet_ap, mAsg_ap, mPar_ap, mExpr_ap, mRet_ap, mRetN_ap, mNext_ap, mBreak_ap, mCont_ap, mSeq_ap, mIf_ap, iSeq_ap, iRan_ap, iZp_ap, mFor_ap, mWhile_ap, mCall_ap, mkD_ap, mLc_ap, fI_ap, fAdd_ap, fSub_ap, fMul_ap, fMod_ap, fDiv_ap, fPow_ap, fLt_ap, fLe_ap, fGt_ap, fGe_ap, fIsN_ap, fNotN_ap, fIsB_ap, fIx_ap, fAddX_ap, fSubX_ap, fMulX_ap, m1_ap, fNeg_ap, mB1_ap, fLen_ap, fAbs_ap, fInt_ap, fMin2_ap, fMax2_ap, fList_ap, fTuple_ap, fStr_ap, mMt_ap, mMtZ_ap, fAppend_ap, fInsert_ap, fPopAt_ap, oNone_ap, oSome_ap, mSl_ap, gIx_ap, mIsi_ap, fEqX_ap, fNeX_ap, fAll_ap, fAny_ap, fSum_ap, fSorted_ap, fBest_ap, fIdx_ap, fRepr_ap, mPermA_ap, fBack_ap, gSplice_ap, mSortSet_ap, fMulY_ap, mTupRan_ap, fIsX_ap, ia_none_int, ia_none_bool, ia_none_list, ia_none_tuple, ia_none_str, ia_none_seq, ia_bool_int, ia_bool_bool, ia_bool_list, ia_bool_tuple, ia_bool_str, ia_bool_seq, ia_int_int, ia_int_bool, ia_int_list, ia_int_tuple, ia_int_str, ia_int_seq, ia_str_int, ia_str_bool, ia_str_list, ia_str_tuple, ia_str_str, ia_str_seq, ia_list_int, ia_list_bool, ia_list_list, ia_list_tuple, ia_list_str, ia_list_seq, ia_tuple_int, ia_tuple_bool, ia_tuple_list, ia_tuple_tuple, ia_tuple_str, ia_tuple_seq, mLst_ap, mTup_ap, mYes_ap, frz, frzAll, peek, res1, resAll, stoAll, argOf, argsOf, bors, wback, outAt, outsFrom, ownsStay, retv, wipeF, unwipe, sto, isNone, tyD, cY, cMul, cMod, cDiv, cPow, Cell.data, b2n, atI, ixN, fMulL, shaped_int, eqv_int, h6]
      simp only [List.nil_append] at hc
      rw [hc]
      simp only [mVar_ap, mLit_ap, m2_ap, mB_ap, mAndT_ap, mOrT_ap, mNotT_ap, mAndV_ap, mOrV_ap, mNotV_ap, mIfE_ap, mNil_ap, mCons_ap, mDisp_ap, gSet_ap, gsNil_ap, gsCons_ap, gTupD_ap, mSet_ap, mAsg_ap, mPar_ap, mExpr_ap, mRet_ap, mRetN_ap, mNext_ap, mBreak_ap, mCont_ap, mSeq_ap, mIf_ap, iSeq_ap, iRan_ap, iZp_ap, mFor_ap, mWhile_ap, mCall_ap, mkD_ap, mLc_ap, fI_ap, fAdd_ap, fSub_ap, fMul_ap, fMod_ap, fDiv_ap, fPow_ap, fLt_ap, fLe_ap, fGt_ap, fGe_ap, fIsN_ap, fNotN_ap, fIsB_ap, fIx_ap, fAddX_ap, fSubX_ap, fMulX_ap, m1_ap, fNeg_ap, mB1_ap, fLen_ap, fAbs_ap, fInt_ap, fMin2_ap, fMax2_ap, fList_ap, fTuple_ap, fStr_ap, mMt_ap, mMtZ_ap, fAppend_ap, fInsert_ap, fPopAt_ap, oNone_ap, oSome_ap, mSl_ap, gIx_ap, mIsi_ap, fEqX_ap, fNeX_ap, fAll_ap, fAny_ap, fSum_ap, fSorted_ap, fBest_ap, fIdx_ap, fRepr_ap, mPermA_ap, fBack_ap, gSplice_ap, mSortSet_ap, fMulY_ap, mTupRan_ap, fIsX_ap, ia_none_int, ia_none_bool, ia_none_list, ia_none_tuple, ia_none_str, ia_none_seq, ia_bool_int, ia_bool_bool, ia_bool_list, ia_bool_tuple, ia_bool_str, ia_bool_seq, ia_int_int, ia_int_bool, ia_int_list, ia_int_tuple, ia_int_str, ia_int_seq, ia_str_int, ia_str_bool, ia_str_list, ia_str_tuple, ia_str_str, ia_str_seq, ia_list_int, ia_list_bool, ia_list_list, ia_list_tuple, ia_list_str, ia_list_seq, ia_tuple_int, ia_tuple_bool, ia_tuple_list, ia_tuple_tuple, ia_tuple_str, ia_tuple_seq, mLst_ap, mTup_ap, mYes_ap, frz, frzAll, peek, res1, resAll, stoAll, argOf, argsOf, bors, wback, outAt, outsFrom, ownsStay, retv, wipeF, unwipe, sto, isNone, tyD, cY, cMul, cMod, cDiv, cPow, Cell.data, b2n, atI, ixN, fMulL, hb, ha, hs, h3]
      simp [mVar_ap, mLit_ap, m2_ap, mB_ap, mAndT_ap, mOrT_ap, mNotT_ap, mAndV_ap, mOrV_ap, mNotV_ap, mIfE_ap, mNil_ap, mCons_ap, mDisp_ap, gSet_ap, gsNil_ap, gsCons_ap, gTupD_ap, mSet_ap, mAsg_ap, mPar_ap, mExpr_ap, mRet_ap, mRetN_ap, mNext_ap, mBreak_ap, mCont_ap, mSeq_ap, mIf_ap, iSeq_ap, iRan_ap, iZp_ap, mFor_ap, mWhile_ap, mCall_ap, mkD_ap, mLc_ap, fI_ap, fAdd_ap, fSub_ap, fMul_ap, fMod_ap, fDiv_ap, fPow_ap, fLt_ap, fLe_ap, fGt_ap, fGe_ap, fIsN_ap, fNotN_ap, fIsB_ap, fIx_ap, fAddX_ap, fSubX_ap, fMulX_ap, m1_ap, fNeg_ap, mB1_ap, fLen_ap, fAbs_ap, fInt_ap, fMin2_ap, fMax2_ap, fList_ap, fTuple_ap, fStr_ap, mMt_ap, mMtZ_ap, fAppend_ap, fInsert_ap, fPopAt_ap, oNone_ap, oSome_ap, mSl_ap, gIx_ap, mIsi_ap, fEqX_ap, fNeX_ap, fAll_ap, fAny_ap, fSum_ap, fSorted_ap, fBest_ap, fIdx_ap, fRepr_ap, mPermA_ap, fBack_ap, gSplice_ap, mSortSet_ap, fMulY_ap, mTupRan_ap, fIsX_ap, ia_none_int, ia_none_bool, ia_none_list, ia_none_tuple, ia_none_str, ia_none_seq, ia_bool_int, ia_bool_bool, ia_bool_list, ia_bool_tuple, ia_bool_str, ia_bool_seq, ia_int_int, ia_int_bool, ia_int_list, ia_int_tuple, ia_int_str, ia_int_seq, ia_str_int, ia_str_bool, ia_str_list, ia_str_tuple, ia_str_str, ia_str_seq, ia_list_int, ia_list_bool, ia_list_list, ia_list_tuple, ia_list_str, ia_list_seq, ia_tuple_int, ia_tuple_bool, ia_tuple_list, ia_tuple_tuple, ia_tuple_str, ia_tuple_seq, mLst_ap, mTup_ap, mYes_ap, frz, frzAll, peek, res1, resAll, stoAll, argOf, argsOf, bors, wback, outAt, outsFrom, ownsStay, retv, wipeF, unwipe, sto, isNone, tyD, cY, cMul, cMod, cDiv, cPow, Cell.data, b2n, atI, ixN, fMulL, h3]
    · have h5 : sizesB (.tuple (e :: es)) = false := by simp only [sizesB]; simp only [Bool.not_eq_true] at hs; rw [hs]; simp
      rw [h5]
      simp only [Bool.not_eq_true] at hs
      have h6 : ¬ ((es.length : Int) + 1 = 0) := by omega
      simp only [bare_sizes]
      simp [mVar_ap, mLit_ap, m2_ap, mB_ap, mAndT_ap, mOrT_ap, mNotT_ap, mAndV_ap, mOrV_ap, mNotV_ap, mIfE_ap, mNil_ap, mCons_ap, mDisp_ap, gSet_ap, gsNil_ap, gsCons_ap, gTupD_ap, mSet_ap, mAsg_ap, mPar_ap, mExpr_ap, mRet_ap, mRetN_ap, mNext_ap, mBreak_ap, mCont_ap, mSeq_ap, mIf_ap, iSeq_ap, iRan_ap, iZp_ap, mFor_ap, mWhile_ap, mCall_ap, mkD_ap, mLc_ap, fI_ap, fAdd_ap, fSub_ap, fMul_ap, fMod_ap, fDiv_ap, fPow_ap, fLt_ap, fLe_ap, fGt_ap, fGe_ap, fIsN_ap, fNotN_ap, fIsB_ap, fIx_ap, fAddX_ap, fSubX_ap, fMulX_ap, m1_ap, fNeg_ap, mB1_ap, fLen_ap, fAbs_ap, fInt_ap, fMin2_ap, fMax2_ap, fList_ap, fTuple_ap, fStr_ap, mMt_ap, mMtZ_ap, fAppend_ap, fInsert_ap, fPopAt_ap, oNone_ap, oSome_ap, mSl_ap, gIx_ap, mIsi_ap, fEqX_ap, fNeX_ap, fAll_ap, fAny_ap, fSum_ap, fSorted_ap, fBest_ap, fIdx_ap, fRepr_ap, mPermA_ap, fBack_ap, gSplice_ap, mSortSet_ap, fMulY_ap, mTupRan_ap, fIsX_ap, ia_none_int, ia_none_bool, ia_none_list, ia_none_tuple, ia_none_str, ia_none_seq, ia_bool_int, ia_bool_bool, ia_bool_list, ia_bool_tuple, ia_bool_str, ia_bool_seq, ia_int_int, ia_int_bool, ia_int_list, ia_int_tuple, ia_int_str, ia_int_seq, ia_str_int, ia_str_bool, ia_str_list, ia_str_tuple, ia_str_str, ia_str_seq, ia_list_int, ia_list_bool, ia_list_list, ia_list_tuple, ia_list_str, ia_list_seq, ia_tuple_int, ia_tuple_bool, ia_tuple_list, ia_tuple_tuple, ia_tuple_str, ia_tuple_seq, mLst_ap, mTup_ap, mYes_ap, frz, frzAll, peek, res1, resAll, stoAll, argOf, argsOf, bors, wback, outAt, outsFrom, ownsStay, retv, wipeF, unwipe, sto, isNone, tyD, cY, cMul, cMod, cDiv, cPow, Cell.data, b2n, atI, ixN, fMulL, shaped_int, eqv_int, h6]
      simp only [List.nil_append] at hc
      rw [hc]
      simp only [mVar_ap, mLit_ap, m2_ap, mB_ap, mAndT_ap, mOrT_ap, mNotT_ap, mAndV_ap, mOrV_ap, mNotV_ap, mIfE_ap, mNil_ap, mCons_ap, mDisp_ap, gSet_ap, gsNil_ap, gsCons_ap, gTupD_ap, mSet_ap, mAsg_ap, mPar_ap, mExpr_ap, mRet_ap, mRetN_ap, mNext_ap, mBreak_ap, mCont_ap, mSeq_ap, mIf_ap, iSeq_ap, iRan_ap, iZp_ap, mFor_ap, mWhile_ap, mCall_ap, mkD_ap, mLc_ap, fI_ap, fAdd_ap, fSub_ap, fMul_ap, fMod_ap, fDiv_ap, fPow_ap, fLt_ap, fLe_ap, fGt_ap, fGe_ap, fIsN_ap, fNotN_ap, fIsB_ap, fIx_ap, fAddX_ap, fSubX_ap, fMulX_ap, m1_ap, fNeg_ap, mB1_ap, fLen_ap, fAbs_ap, fInt_ap, fMin2_ap, fMax2_ap, fList_ap, fTuple_ap, fStr_ap, mMt_ap, mMtZ_ap, fAppend_ap, fInsert_ap, fPopAt_ap, oNone_ap, oSome_ap, mSl_ap, gIx_ap, mIsi_ap, fEqX_ap, fNeX_ap, fAll_ap, fAny_ap, fSum_ap, fSorted_ap, fBest_ap, fIdx_ap, fRepr_ap, mPermA_ap, fBack_ap, gSplice_ap, mSortSet_ap, fMulY_ap, mTupRan_ap, fIsX_ap, ia_none_int, ia_none_bool, ia_none_list, ia_none_tuple, ia_none_str, ia_none_seq, ia_bool_int, ia_bool_bool, ia_bool_list, ia_bool_tuple, ia_bool_str, ia_bool_seq, ia_int_int, ia_int_bool, ia_int_list, ia_int_tuple, ia_int_str, ia_int_seq, ia_str_int, ia_str_bool, ia_str_list, ia_str_tuple, ia_str_str, ia_str_seq, ia_list_int, ia_list_bool, ia_list_list, ia_list_tuple, ia_list_str, ia_list_seq, ia_tuple_int, ia_tuple_bool, ia_tuple_list, ia_tuple_tuple, ia_tuple_str, ia_tuple_seq, mLst_ap, mTup_ap, mYes_ap, frz, frzAll, peek, res1, resAll, stoAll, argOf, argsOf, bors, wback, outAt, outsFrom, ownsStay, retv, wipeF, unwipe, sto, isNone, tyD, cY, cMul, cMod, cDiv, cPow, Cell.data, b2n, atI, ixN, fMulL, hb, ha, hs]
      simp [mVar_ap, mLit_ap, m2_ap, mB_ap, mAndT_ap, mOrT_ap, mNotT_ap, mAndV_ap, mOrV_ap, mNotV_ap, mIfE_ap, mNil_ap, mCons_ap, mDisp_ap, gSet_ap, gsNil_ap, gsCons_ap, gTupD_ap, mSet_ap, mAsg_ap, mPar_ap, mExpr_ap, mRet_ap, mRetN_ap, mNext_ap, mBreak_ap, mCont_ap, mSeq_ap, mIf_ap, iSeq_ap, iRan_ap, iZp_ap, mFor_ap, mWhile_ap, mCall_ap, mkD_ap, mLc_ap, fI_ap, fAdd_ap, fSub_ap, fMul_ap, fMod_ap, fDiv_ap, fPow_ap, fLt_ap, fLe_ap, fGt_ap, fGe_ap, fIsN_ap, fNotN_ap, fIsB_ap, fIx_ap, fAddX_ap, fSubX_ap, fMulX_ap, m1_ap, fNeg_ap, mB1_ap, fLen_ap, fAbs_ap, fInt_ap, fMin2_ap, fMax2_ap, fList_ap, fTuple_ap, fStr_ap, mMt_ap, mMtZ_ap, fAppend_ap, fInsert_ap, fPopAt_ap, oNone_ap, oSome_ap, mSl_ap, gIx_ap, mIsi_ap, fEqX_ap, fNeX_ap, fAll_ap, fAny_ap, fSum_ap, fSorted_ap, fBest_ap, fIdx_ap, fRepr_ap, mPermA_ap, fBack_ap, gSplice_ap, mSortSet_ap, fMulY_ap, mTupRan_ap, fIsX_ap, ia_none_int, ia_none_bool, ia_none_list, ia_none_tuple, ia_none_str, ia_none_seq, ia_bool_int, ia_bool_bool, ia_bool_list, ia_bool_tuple, ia_bool_str, ia_bool_seq, ia_int_int, ia_int_bool, ia_int_list, ia_int_tuple, ia_int_str, ia_int_seq, ia_str_int, ia_str_bool, ia_str_list, ia_str_tuple, ia_str_str, ia_str_seq, ia_list_int, ia_list_bool, ia_list_list, ia_list_tuple, ia_list_str, ia_list_seq, ia_tuple_int, ia_tuple_bool, ia_tuple_list, ia_tuple_tuple, ia_tuple_str, ia_tuple_seq, mLst_ap, mTup_ap, mYes_ap, frz, frzAll, peek, res1, resAll, stoAll, argOf, argsOf, bors, wback, outAt, outsFrom, ownsStay, retv, wipeF, unwipe, sto, isNone, tyD, cY, cMul, cMod, cDiv, cPow, Cell.data, b2n, atI, ixN, fMulL]
theorem ranges_ok {n : Nat} (hn : 4 ≤ n) {d : PyData} (hd : plainD d = true) (hp : ∀ ds, d = .tuple ds → ds.length ≤ 1000 ∧ ∀ x ∈ ds, plainD x = true ∧ ∀ es, x = .tuple es → ∀ y ∈ es, plainD y = true) : Dare_ranges n [.dat d] = some (.dat (.bool (rangesB d)), [.dat d]) := by
  obtain ⟨n, rfl⟩ : ∃ m, n = m + 1 := ⟨n - 1, by omega⟩
  rw [eare_ranges]
  match d, hd, hp with
  | .none, _, _ => simp [bare_ranges, mVar_ap, mLit_ap, m2_ap, mB_ap, mAndT_ap, mOrT_ap, mNotT_ap, mAndV_ap, mOrV_ap, mNotV_ap, mIfE_ap, mNil_ap, mCons_ap, mDisp_ap, gSet_ap, gsNil_ap, gsCons_ap, gTupD_ap, mSet_ap, mAsg_ap, mPar_ap, mExpr_ap, mRet_ap, mRetN_ap, mNext_ap, mBreak_ap, mCont_ap, mSeq_ap, mIf_ap, iSeq_ap, iRan_ap, iZp_ap, mFor_ap, mWhile_ap, mCall_ap, mkD_ap, mLc_ap, fI_ap, fAdd_ap, fSub_ap, fMul_ap, fMod_ap, fDiv_ap, fPow_ap, fLt_ap, fLe_ap, fGt_ap, fGe_ap, fIsN_ap, fNotN_ap, fIsB_ap, fIx_ap, fAddX_ap, fSubX_ap, fMulX_ap, m1_ap, fNeg_ap, mB1_ap, fLen_ap, fAbs_ap, fInt_ap, fMin2_ap, fMax2_ap, fList_ap, fTuple_ap, fStr_ap, mMt_ap, mMtZ_ap, fAppend_ap, fInsert_ap, fPopAt_ap, oNone_ap, oSome_ap, mSl_ap, gIx_ap, mIsi_ap, fEqX_ap, fNeX_ap, fAll_ap, fAny_ap, fSum_ap, fSorted_ap, fBest_ap, fIdx_ap, fRepr_ap, mPermA_ap, fBack_ap, gSplice_ap, mSortSet_ap, fMulY_ap, mTupRan_ap, fIsX_ap, ia_none_int, ia_none_bool, ia_none_list, ia_none_tuple, ia_none_str, ia_none_seq, ia_bool_int, ia_bool_bool, ia_bool_list, ia_bool_tuple, ia_bool_str, ia_bool_seq, ia_int_int, ia_int_bool, ia_int_list, ia_int_tuple, ia_int_str, ia_int_seq, ia_str_int, ia_str_bool, ia_str_list, ia_str_tuple, ia_str_str, ia_str_seq, ia_list_int, ia_list_bool, ia_list_list, ia_list_tuple, ia_list_str, ia_list_seq, ia_tuple_int, ia_tuple_bool, ia_tuple_list, ia_tuple_tuple, ia_tuple_str, ia_tuple_seq, mLst_ap, mTup_ap, mYes_ap, frz, frzAll, peek, res1, resAll, stoAll, argOf, argsOf, bors, wback, outAt, outsFrom, ownsStay, retv, wipeF, unwipe, sto, isNone, tyD, cY, cMul, cMod, cDiv, cPow, Cell.data, b2n, atI, ixN, fMulL, rangesB]
  | .bool _, _, _ => simp [bare_ranges, mVar_ap, mLit_ap, m2_ap, mB_ap, mAndT_ap, mOrT_ap, mNotT_ap, mAndV_ap, mOrV_ap, mNotV_ap, mIfE_ap, mNil_ap, mCons_ap, mDisp_ap, gSet_ap, gsNil_ap, gsCons_ap, gTupD_ap, mSet_ap, mAsg_ap, mPar_ap, mExpr_ap, mRet_ap, mRetN_ap, mNext_ap, mBreak_ap, mCont_ap, mSeq_ap, mIf_ap, iSeq_ap, iRan_ap, iZp_ap, mFor_ap, mWhile_ap, mCall_ap, mkD_ap, mLc_ap, fI_ap, fAdd_ap, fSub_ap, fMul_ap, fMod_ap, fDiv_ap, fPow_ap, fLt_ap, fLe_ap, fGt_ap, fGe_ap, fIsN_ap, fNotN_ap, fIsB_ap, fIx_ap, fAddX_ap, fSubX_ap, fMulX_ap, m1_ap, fNeg_ap, mB1_ap, fLen_ap, fAbs_ap, fInt_ap, fMin2_ap, fMax2_ap, fList_ap, fTuple_ap, fStr_ap, mMt_ap, mMtZ_ap, fAppend_ap, fInsert_ap, fPopAt_ap, oNone_ap, oSome_ap, mSl_ap, gIx_ap, mIsi_ap, fEqX_ap, fNeX_ap, fAll_ap, fAny_ap, fSum_ap, fSorted_ap, fBest_ap, fIdx_ap, fRepr_ap, mPermA_ap, fBack_ap, gSplice_ap, mSortSet_ap, fMulY_ap, mTupRan_ap, fIsX_ap, ia_none_int, ia_none_bool, ia_none_list, ia_none_tuple, ia_none_str, ia_none_seq, ia_bool_int, ia_bool_bool, ia_bool_list, ia_bool_tuple, ia_bool_str, ia_bool_seq, ia_int_int, ia_int_bool, ia_int_list, ia_int_tuple, ia_int_str, ia_int_seq, ia_str_int, ia_str_bool, ia_str_list, ia_str_tuple, ia_str_str, ia_str_seq, ia_list_int, ia_list_bool, ia_list_list, ia_list_tuple, ia_list_str, ia_list_seq, ia_tuple_int, ia_tuple_bool, ia_tuple_list, ia_tuple_tuple, ia_tuple_str, ia_tuple_seq, mLst_ap, mTup_ap, mYes_ap, frz, frzAll, peek, res1, resAll, stoAll, argOf, argsOf, bors, wback, outAt, outsFrom, ownsStay, retv, wipeF, unwipe, sto, isNone, tyD, cY, cMul, cMod, cDiv, cPow, Cell.data, b2n, atI, ixN, fMulL, rangesB]
  | .int _, _, _ => simp [bare_ranges, mVar_ap, mLit_ap, m2_ap, mB_ap, mAndT_ap, mOrT_ap, mNotT_ap, mAndV_ap, mOrV_ap, mNotV_ap, mIfE_ap, mNil_ap, mCons_ap, mDisp_ap, gSet_ap, gsNil_ap, gsCons_ap, gTupD_ap, mSet_ap, mAsg_ap, mPar_ap, mExpr_ap, mRet_ap, mRetN_ap, mNext_ap, mBreak_ap, mCont_ap, mSeq_ap, mIf_ap, iSeq_ap, iRan_ap, iZp_ap, mFor_ap, mWhile_ap, mCall_ap, mkD_ap, mLc_ap, fI_ap, fAdd_ap, fSub_ap, fMul_ap, fMod_ap, fDiv_ap, fPow_ap, fLt_ap, fLe_ap, fGt_ap, fGe_ap, fIsN_ap, fNotN_ap, fIsB_ap, fIx_ap, fAddX_ap, fSubX_ap, fMulX_ap, m1_ap, fNeg_ap, mB1_ap, fLen_ap, fAbs_ap, fInt_ap, fMin2_ap, fMax2_ap, fList_ap, fTuple_ap, fStr_ap, mMt_ap, mMtZ_ap, fAppend_ap, fInsert_ap, fPopAt_ap, oNone_ap, oSome_ap, mSl_ap, gIx_ap, mIsi_ap, fEqX_ap, fNeX_ap, fAll_ap, fAny_ap, fSum_ap, fSorted_ap, fBest_ap, fIdx_ap, fRepr_ap, mPermA_ap, fBack_ap, gSplice_ap, mSortSet_ap, fMulY_ap, mTupRan_ap, fIsX_ap, ia_none_int, ia_none_bool, ia_none_list, ia_none_tuple, ia_none_str, ia_none_seq, ia_bool_int, ia_bool_bool, ia_bool_list, ia_bool_tuple, ia_bool_str, ia_bool_seq, ia_int_int, ia_int_bool, ia_int_list, ia_int_tuple, ia_int_str, ia_int_seq, ia_str_int, ia_str_bool, ia_str_list, ia_str_tuple, ia_str_str, ia_str_seq, ia_list_int, ia_list_bool, ia_list_list, ia_list_tuple, ia_list_str, ia_list_seq, ia_tuple_int, ia_tuple_bool, ia_tuple_list, ia_tuple_tuple, ia_tuple_str, ia_tuple_seq, mLst_ap, mTup_ap, mYes_ap, frz, frzAll, peek, res1, resAll, stoAll, argOf, argsOf, bors, wback, outAt, outsFrom, ownsStay, retv, wipeF, unwipe, sto, isNone, tyD, cY, cMul, cMod, cDiv, cPow, Cell.data, b2n, atI, ixN, fMulL, rangesB]
  | .str _, _, _ => simp [bare_ranges, mVar_ap, mLit_ap, m2_ap, mB_ap, mAndT_ap, mOrT_ap, mNotT_ap, mAndV_ap, mOrV_ap, mNotV_ap, mIfE_ap, mNil_ap, mCons_ap, mDisp_ap, gSet_ap, gsNil_ap, gsCons_ap, gTupD_ap, mSet_ap, mAsg_ap, mPar_ap, mExpr_ap, mRet_ap, mRetN_ap, mNext_ap, mBreak_ap, mCont_ap, mSeq_ap, mIf_ap, iSeq_ap, iRan_ap, iZp_ap, mFor_ap, mWhile_ap, mCall_ap, mkD_ap, mLc_ap, fI_ap, fAdd_ap, fSub_ap, fMul_ap, fMod_ap, fDiv_ap, fPow_ap, fLt_ap, fLe_ap, fGt_ap, fGe_ap, fIsN_ap, fNotN_ap, fIsB_ap, fIx_ap, fAddX_ap, fSubX_ap, fMulX_ap, m1_ap, fNeg_ap, mB1_ap, fLen_ap, fAbs_ap, fInt_ap, fMin2_ap, fMax2_ap, fList_ap, fTuple_ap, fStr_ap, mMt_ap, mMtZ_ap, fAppend_ap, fInsert_ap, fPopAt_ap, oNone_ap, oSome_ap, mSl_ap, gIx_ap, mIsi_ap, fEqX_ap, fNeX_ap, fAll_ap, fAny_ap, fSum_ap, fSorted_ap, fBest_ap, fIdx_ap, fRepr_ap, mPermA_ap, fBack_ap, gSplice_ap, mSortSet_ap, fMulY_ap, mTupRan_ap, fIsX_ap, ia_none_int, ia_none_bool, ia_none_list, ia_none_tuple, ia_none_str, ia_none_seq, ia_bool_int, ia_bool_bool, ia_bool_list, ia_bool_tuple, ia_bool_str, ia_bool_seq, ia_int_int, ia_int_bool, ia_int_list, ia_int_tuple, ia_int_str, ia_int_seq, ia_str_int, ia_str_bool, ia_str_list, ia_str_tuple, ia_str_str, ia_str_seq, ia_list_int, ia_list_bool, ia_list_list, ia_list_tuple, ia_list_str, ia_list_seq, ia_tuple_int, ia_tuple_bool, ia_tuple_list, ia_tuple_tuple, ia_tuple_str, ia_tuple_seq, mLst_ap, mTup_ap, mYes_ap, frz, frzAll, peek, res1, resAll, stoAll, argOf, argsOf, bors, wback, outAt, outsFrom, ownsStay, retv, wipeF, unwipe, sto, isNone, tyD, cY, cMul, cMod, cDiv, cPow, Cell.data, b2n, atI, ixN, fMulL, rangesB]
  | .list _, _, _ => simp [bare_ranges, mVar_ap, mLit_ap, m2_ap, mB_ap, mAndT_ap, mOrT_ap, mNotT_ap, mAndV_ap, mOrV_ap, mNotV_ap, mIfE_ap, mNil_ap, mCons_ap, mDisp_ap, gSet_ap, gsNil_ap, gsCons_ap, gTupD_ap, mSet_ap, mAsg_ap, mPar_ap, mExpr_ap, mRet_ap, mRetN_ap, mNext_ap, mBreak_ap, mCont_ap, mSeq_ap, mIf_ap, iSeq_ap, iRan_ap, iZp_ap, mFor_ap, mWhile_ap, mCall_ap, mkD_ap, mLc_ap, fI_ap, fAdd_ap, fSub_ap, fMul_ap, fMod_ap, fDiv_ap, fPow_ap, fLt_ap, fLe_ap, fGt_ap, fGe_ap, fIsN_ap, fNotN_ap, fIsB_ap, fIx_ap, fAddX_ap, fSubX_ap, fMulX_ap, m1_ap, fNeg_ap, mB1_ap, fLen_ap, fAbs_ap, fInt_ap, fMin2_ap, fMax2_ap, fList_ap, fTuple_ap, fStr_ap, mMt_ap, mMtZ_ap, fAppend_ap, fInsert_ap, fPopAt_ap, oNone_ap, oSome_ap, mSl_ap, gIx_ap, mIsi_ap, fEqX_ap, fNeX_ap, fAll_ap, fAny_ap, fSum_ap, fSorted_ap, fBest_ap, fIdx_ap, fRepr_ap, mPermA_ap, fBack_ap, gSplice_ap, mSortSet_ap, fMulY_ap, mTupRan_ap, fIsX_ap, ia_none_int, ia_none_bool, ia_none_list, ia_none_tuple, ia_none_str, ia_none_seq, ia_bool_int, ia_bool_bool, ia_bool_list, ia_bool_tuple, ia_bool_str, ia_bool_seq, ia_int_int, ia_int_bool, ia_int_list, ia_int_tuple, ia_int_str, ia_int_seq, ia_str_int, ia_str_bool, ia_str_list, ia_str_tuple, ia_str_str, ia_str_seq, ia_list_int, ia_list_bool, ia_list_list, ia_list_tuple, ia_list_str, ia_list_seq, ia_tuple_int, ia_tuple_bool, ia_tuple_list, ia_tuple_tuple, ia_tuple_str, ia_tuple_seq, mLst_ap, mTup_ap, mYes_ap, frz, frzAll, peek, res1, resAll, stoAll, argOf, argsOf, bors, wback, outAt, outsFrom, ownsStay, retv, wipeF, unwipe, sto, isNone, tyD, cY, cMul, cMod, cDiv, cPow, Cell.data, b2n, atI, ixN, fMulL, rangesB]
  | .tuple [], _, _ => simp [bare_ranges, mVar_ap, mLit_ap, m2_ap, mB_ap, mAndT_ap, mOrT_ap, mNotT_ap, mAndV_ap, mOrV_ap, mNotV_ap, mIfE_ap, mNil_ap, mCons_ap, mDisp_ap, gSet_ap, gsNil_ap, gsCons_ap, gTupD_ap, mSet_ap, mAsg_ap, mPar_ap, mExpr_ap, mRet_ap, mRetN_ap, mNext_ap, mBreak_ap, mCont_ap, mSeq_ap, mIf_ap, iSeq_ap, iRan_ap, iZp_ap, mFor_ap, mWhile_ap, mCall_ap, mkD_ap, mLc_ap, fI_ap, fAdd_ap, fSub_ap, fMul_ap, fMod_ap, fDiv_ap, fPow_ap, fLt_ap, fLe_ap, fGt_ap, fGe_ap, fIsN_ap, fNotN_ap, fIsB_ap, fIx_ap, fAddX_ap, fSubX_ap, fMulX_ap, m1_ap, fNeg_ap, mB1_ap, fLen_ap, fAbs_ap, fInt_ap, fMin2_ap, fMax2_ap, fList_ap, fTuple_ap, fStr_ap, mMt_ap, mMtZ_ap, fAppend_ap, fInsert_ap, fPopAt_ap, oNone_ap, oSome_ap, mSl_ap, gIx_ap, mIsi_ap, fEqX_ap, fNeX_ap, fAll_ap, fAny_ap, fSum_ap, fSorted_ap, fBest_ap, fIdx_ap, fRepr_ap, mPermA_ap, fBack_ap, gSplice_ap, mSortSet_ap, fMulY_ap, mTupRan_ap, fIsX_ap, ia_none_int, ia_none_bool, ia_none_list, ia_none_tuple, ia_none_str, ia_none_seq, ia_bool_int, ia_bool_bool, ia_bool_list, ia_bool_tuple, ia_bool_str, ia_bool_seq, ia_int_int, ia_int_bool, ia_int_list, ia_int_tuple, ia_int_str, ia_int_seq, ia_str_int, ia_str_bool, ia_str_list, ia_str_tuple, ia_str_str, ia_str_seq, ia_list_int, ia_list_bool, ia_list_list, ia_list_tuple, ia_list_str, ia_list_seq, ia_tuple_int, ia_tuple_bool, ia_tuple_list, ia_tuple_tuple, ia_tuple_str, ia_tuple_seq, mLst_ap, mTup_ap, mYes_ap, frz, frzAll, peek, res1, resAll, stoAll, argOf, argsOf, bors, wback, outAt, outsFrom, ownsStay, retv, wipeF, unwipe, sto, isNone, tyD, cY, cMul, cMod, cDiv, cPow, Cell.data, b2n, atI, ixN, fMulL, rangesB, shaped_int, eqv_int]
  | .tuple (e :: es), _, hp =>
    obtain ⟨hl, hx⟩ := hp _ rfl
    have hc := compM_map (g := gSet 1) (me := mCall (Dis_range n) (mCons (mVar 1) mNil)) (vs := [1]) (fun d => PyData.bool (rangeB d)) [some (.dat (.tuple (e :: es))), none] (e :: es) [] (fun d m => by
      have h2 := range_ok (n := n) (by omega) (hx d m).1 (hx d m).2
      exact ⟨[some (.dat (.tuple (e :: es))), some (.dat d)], .dat (.bool (rangeB d)), [some (.dat (.tuple (e :: es))), some (.dat d)], [some (.dat (.tuple (e :: es))), some (.dat d)], rfl, by simp [mVar_ap, mLit_ap, m2_ap, mB_ap, mAndT_ap, mOrT_ap, mNotT_ap, mAndV_ap, mOrV_ap, mNotV_ap, mIfE_ap, mNil_ap, mCons_ap, mDisp_ap, gSet_ap, gsNil_ap, gsCons_ap, gTupD_ap, mSet_ap, mAsg_ap, mPar_ap, mExpr_ap, mRet_ap, mRetN_ap, mNext_ap, mBreak_ap, mCont_ap, mSeq_ap, mIf_ap, iSeq_ap, iRan_ap, iZp_ap, mFor_ap, mWhile_ap, mCall_ap, mkD_ap, mLc_ap, fI_ap, fAdd_ap, fSub_ap, fMul_ap, fMod_ap, fDiv_ap, fPow_ap, fLt_ap, fLe_ap, fGt_ap, fGe_ap, fIsN_ap, fNotN_ap, fIsB_ap, fIx_ap, fAddX_ap, fSubX_ap, fMulX_ap, m1_ap, fNeg_ap, mB1_ap, fLen_ap, fAbs_ap, fInt_ap, fMin2_ap, fMax2_ap, fList_ap, fTuple_ap, fStr_ap, mMt_ap, mMtZ_ap, fAppend_ap, fInsert_ap, fPopAt_ap, oNone_ap, oSome_ap, mSl_ap, gIx_ap, mIsi_ap, fEqX_ap, fNeX_ap, fAll_ap, fAny_ap, fSum_ap, fSorted_ap, fBest_ap, fIdx_ap, fRepr_ap, mPermA_ap, fBack_ap, gSplice_ap, mSortSet_ap, fMulY_ap, mTupRan_ap, fIsX_ap, ia_none_int, ia_none_bool, ia_none_list, ia_none_tuple, ia_none_str, ia_none_seq, ia_bool_int, ia_bool_bool, ia_bool_list, ia_bool_tuple, ia_bool_str, ia_bool_seq, ia_int_int, ia_int_bool, ia_int_list, ia_int_tuple, ia_int_str, ia_int_seq, ia_str_int, ia_str_bool, ia_str_list, ia_str_tuple, ia_str_str, ia_str_seq, ia_list_int, ia_list_bool, ia_list_list, ia_list_tuple, ia_list_str, ia_list_seq, ia_tuple_int, ia_tuple_bool, ia_tuple_list, ia_tuple_tuple, ia_tuple_str, ia_tuple_seq, mLst_ap, mTup_ap, mYes_ap, frz, frzAll, peek, res1, resAll, stoAll, argOf, argsOf, bors, wback, outAt, outsFrom, ownsStay, retv, wipeF, unwipe, sto, isNone, tyD, cY, cMul, cMod, cDiv, cPow, Cell.data, b2n, atI, ixN, fMulL, h2], rfl, by simp [wipeF]⟩) (by
      rw [sizeLine_v]; simp at hl ⊢; omega)
    have hb := boolsD_all rangeB (e :: es)
    have ha := all_map rangeB (e :: es)
    have h5 : rangesB (.tuple (e :: es)) = (e :: es).all rangeB := by simp only [rangesB]; simp
    rw [h5]
    have h6 : ¬ ((es.length : Int) + 1 = 0) := by omega
    simp only [bare_ranges]
    simp [mVar_ap, mLit_ap, m2_ap, mB_ap, mAndT_ap, mOrT_ap, mNotT_ap, mAndV_ap, mOrV_ap, mNotV_ap, mIfE_ap, mNil_ap, mCons_ap, mDisp_ap, gSet_ap, gsNil_ap, gsCons_ap, gTupD_ap, mSet_ap, mAsg_ap, mPar_ap, mExpr_ap, mRet_ap, mRetN_ap, mNext_ap, mBreak_ap, mCont_ap, mSeq_ap, mIf_ap, iSeq_ap, iRan_ap, iZp_ap, mFor_ap, mWhile_ap, mCall_ap, mkD_ap, mLc_ap, fI_ap, fAdd_ap, fSub_ap, fMul_ap, fMod_ap, fDiv_ap, fPow_ap, fLt_ap, fLe_ap, fGt_ap, fGe_ap, fIsN_ap, fNotN_ap, fIsB_ap, fIx_ap, fAddX_ap, fSubX_ap, fMulX_ap, m1_ap, fNeg_ap, mB1_ap, fLen_ap, fAbs_ap, fInt_ap, fMin2_ap, fMax2_ap, fList_ap, fTuple_ap, fStr_ap, mMt_ap, mMtZ_ap, fAppend_ap, fInsert_ap, fPopAt_ap, oNone_ap, oSome_ap, mSl_ap, gIx_ap, mIsi_ap, fEqX_ap, fNeX_ap, fAll_ap, fAny_ap, fSum_ap, fSorted_ap, fBest_ap, fIdx_ap, fRepr_ap, mPermA_ap, fBack_ap, gSplice_ap, mSortSet_ap, fMulY_ap, mTupRan_ap, fIsX_ap, ia_none_int, ia_none_bool, ia_none_list, ia_none_tuple, ia_none_str, ia_none_seq, ia_bool_int, ia_bool_bool, ia_bool_list, ia_bool_tuple, ia_bool_str, ia_bool_seq, ia_int_int, ia_int_bool, ia_int_list, ia_int_tuple, ia_int_str, ia_int_seq, ia_str_int, ia_str_bool, ia_str_list, ia_str_tuple, ia_str_str, ia_str_seq, ia_list_int, ia_list_bool, ia_list_list, ia_list_tuple, ia_list_str, ia_list_seq, ia_tuple_int, ia_tuple_bool, ia_tuple_list, ia_tuple_tuple, ia_tuple_str, ia_tuple_seq, mLst_ap, mTup_ap, mYes_ap, frz, frzAll, peek, res1, resAll, stoAll, argOf, argsOf, bors, wback, outAt, outsFrom, ownsStay, retv, wipeF, unwipe, sto, isNone, tyD, cY, cMul, cMod, cDiv, cPow, Cell.data, b2n, atI, ixN, fMulL, shaped_int, eqv_int, h6]
    simp only [List.nil_append] at hc
    rw [hc]
    simp only [mVar_ap, mLit_ap, m2_ap, mB_ap, mAndT_ap, mOrT_ap, mNotT_ap, mAndV_ap, mOrV_ap, mNotV_ap, mIfE_ap, mNil_ap, mCons_ap, mDisp_ap, gSet_ap, gsNil_ap, gsCons_ap, gTupD_ap, mSet_ap, mAsg_ap, mPar_ap, mExpr_ap, mRet_ap, mRetN_ap, mNext_ap, mBreak_ap, mCont_ap, mSeq_ap, mIf_ap, iSeq_ap, iRan_ap, iZp_ap, mFor_ap, mWhile_ap, mCall_ap, mkD_ap, mLc_ap, fI_ap, fAdd_ap, fSub_ap, fMul_ap, fMod_ap, fDiv_ap, fPow_ap, fLt_ap, fLe_ap, fGt_ap, fGe_ap, fIsN_ap, fNotN_ap, fIsB_ap, fIx_ap, fAddX_ap, fSubX_ap, fMulX_ap, m1_ap, fNeg_ap, mB1_ap, fLen_ap, fAbs_ap, fInt_ap, fMin2_ap, fMax2_ap, fList_ap, fTuple_ap, fStr_ap, mMt_ap, mMtZ_ap, fAppend_ap, fInsert_ap, fPopAt_ap, oNone_ap, oSome_ap, mSl_ap, gIx_ap, mIsi_ap, fEqX_ap, fNeX_ap, fAll_ap, fAny_ap, fSum_ap, fSorted_ap, fBest_ap, fIdx_ap, fRepr_ap, mPermA_ap, fBack_ap, gSplice_ap, mSortSet_ap, fMulY_ap, mTupRan_ap, fIsX_ap, ia_none_int, ia_none_bool, ia_none_list, ia_none_tuple, ia_none_str, ia_none_seq, ia_bool_int, ia_bool_bool, ia_bool_list, ia_bool_tuple, ia_bool_str, ia_bool_seq, ia_int_int, ia_int_bool, ia_int_list, ia_int_tuple, ia_int_str, ia_int_seq, ia_str_int, ia_str_bool, ia_str_list, ia_str_tuple, ia_str_str, ia_str_seq, ia_list_int, ia_list_bool, ia_list_list, ia_list_tuple, ia_list_str, ia_list_seq, ia_tuple_int, ia_tuple_bool, ia_tuple_list, ia_tuple_tuple, ia_tuple_str, ia_tuple_seq, mLst_ap, mTup_ap, mYes_ap, frz, frzAll, peek, res1, resAll, stoAll, argOf, argsOf, bors, wback, outAt, outsFrom, ownsStay, retv, wipeF, unwipe, sto, isNone, tyD, cY, cMul, cMod, cDiv, cPow, Cell.data, b2n, atI, ixN, fMulL, hb, ha]
    simp [mVar_ap, mLit_ap, m2_ap, mB_ap, mAndT_ap, mOrT_ap, mNotT_ap, mAndV_ap, mOrV_ap, mNotV_ap, mIfE_ap, mNil_ap, mCons_ap, mDisp_ap, gSet_ap, gsNil_ap, gsCons_ap, gTupD_ap, mSet_ap, mAsg_ap, mPar_ap, mExpr_ap, mRet_ap, mRetN_ap, mNext_ap, mBreak_ap, mCont_ap, mSeq_ap, mIf_ap, iSeq_ap, iRan_ap, iZp_ap, mFor_ap, mWhile_ap, mCall_ap, mkD_ap, mLc_ap, fI_ap, fAdd_ap, fSub_ap, fMul_ap, fMod_ap, fDiv_ap, fPow_ap, fLt_ap, fLe_ap, fGt_ap, fGe_ap, fIsN_ap, fNotN_ap, fIsB_ap, fIx_ap, fAddX_ap, fSubX_ap, fMulX_ap, m1_ap, fNeg_ap, mB1_ap, fLen_ap, fAbs_ap, fInt_ap, fMin2_ap, fMax2_ap, fList_ap, fTuple_ap, fStr_ap, mMt_ap, mMtZ_ap, fAppend_ap, fInsert_ap, fPopAt_ap, oNone_ap, oSome_ap, mSl_ap, gIx_ap, mIsi_ap, fEqX_ap, fNeX_ap, fAll_ap, fAny_ap, fSum_ap, fSorted_ap, fBest_ap, fIdx_ap, fRepr_ap, mPermA_ap, fBack_ap, gSplice_ap, mSortSet_ap, fMulY_ap, mTupRan_ap, fIsX_ap, ia_none_int, ia_none_bool, ia_none_list, ia_none_tuple, ia_none_str, ia_none_seq, ia_bool_int, ia_bool_bool, ia_bool_list, ia_bool_tuple, ia_bool_str, ia_bool_seq, ia_int_int, ia_int_bool, ia_int_list, ia_int_tuple, ia_int_str, ia_int_seq, ia_str_int, ia_str_bool, ia_str_list, ia_str_tuple, ia_str_str, ia_str_seq, ia_list_int, ia_list_bool, ia_list_list, ia_list_tuple, ia_list_str, ia_list_seq, ia_tuple_int, ia_tuple_bool, ia_tuple_list, ia_tuple_tuple, ia_tuple_str, ia_tuple_seq, mLst_ap, mTup_ap, mYes_ap, frz, frzAll, peek, res1, resAll, stoAll, argOf, argsOf, bors, wback, outAt, outsFrom, ownsStay, retv, wipeF, unwipe, sto, isNone, tyD, cY, cMul, cMod, cDiv, cPow, Cell.data, b2n, atI, ixN, fMulL]
/-- plain to the third level, tuples short -/
def Pl : Nat → PyData → Prop
  | 0, d => plainD d = true ∧ SeqAt.shaped d = true
  | n + 1, d => (plainD d = true ∧ SeqAt.shaped d = true) ∧ ∀ ds, d = .tuple ds → ds.length ≤ 63 ∧ ∀ x ∈ ds, Pl n x
theorem Pl.p {n : Nat} {d : PyData} (h : Pl n d) : plainD d = true := by
  cases n with
  | zero => exact h.1
  | succ n => exact h.1.1
theorem Pl.s {n : Nat} {d : PyData} (h : Pl n d) : SeqAt.shaped d = true := by
  cases n with
  | zero => exact h.2
  | succ n => exact h.1.2
theorem shop_ok {n : Nat} (hn : 5 ≤ n) {d : PyData} (hp : Pl 3 d) : Dis_shop n [.dat d] = some (.dat (.bool (shopB d)), [.dat d]) := by
  obtain ⟨n, rfl⟩ : ∃ m, n = m + 1 := ⟨n - 1, by omega⟩
  have h1 := pair_ok (n := n) (by omega) hp.p
  rw [eis_shop]
  match d, hp, h1 with
  | .none, hp, h1 => simp [bis_shop, mVar_ap, mLit_ap, m2_ap, mB_ap, mAndT_ap, mOrT_ap, mNotT_ap, mAndV_ap, mOrV_ap, mNotV_ap, mIfE_ap, mNil_ap, mCons_ap, mDisp_ap, gSet_ap, gsNil_ap, gsCons_ap, gTupD_ap, mSet_ap, mAsg_ap, mPar_ap, mExpr_ap, mRet_ap, mRetN_ap, mNext_ap, mBreak_ap, mCont_ap, mSeq_ap, mIf_ap, iSeq_ap, iRan_ap, iZp_ap, mFor_ap, mWhile_ap, mCall_ap, mkD_ap, mLc_ap, fI_ap, fAdd_ap, fSub_ap, fMul_ap, fMod_ap, fDiv_ap, fPow_ap, fLt_ap, fLe_ap, fGt_ap, fGe_ap, fIsN_ap, fNotN_ap, fIsB_ap, fIx_ap, fAddX_ap, fSubX_ap, fMulX_ap, m1_ap, fNeg_ap, mB1_ap, fLen_ap, fAbs_ap, fInt_ap, fMin2_ap, fMax2_ap, fList_ap, fTuple_ap, fStr_ap, mMt_ap, mMtZ_ap, fAppend_ap, fInsert_ap, fPopAt_ap, oNone_ap, oSome_ap, mSl_ap, gIx_ap, mIsi_ap, fEqX_ap, fNeX_ap, fAll_ap, fAny_ap, fSum_ap, fSorted_ap, fBest_ap, fIdx_ap, fRepr_ap, mPermA_ap, fBack_ap, gSplice_ap, mSortSet_ap, fMulY_ap, mTupRan_ap, fIsX_ap, ia_none_int, ia_none_bool, ia_none_list, ia_none_tuple, ia_none_str, ia_none_seq, ia_bool_int, ia_bool_bool, ia_bool_list, ia_bool_tuple, ia_bool_str, ia_bool_seq, ia_int_int, ia_int_bool, ia_int_list, ia_int_tuple, ia_int_str, ia_int_seq, ia_str_int, ia_str_bool, ia_str_list, ia_str_tuple, ia_str_str, ia_str_seq, ia_list_int, ia_list_bool, ia_list_list, ia_list_tuple, ia_list_str, ia_list_seq, ia_tuple_int, ia_tuple_bool, ia_tuple_list, ia_tuple_tuple, ia_tuple_str, ia_tuple_seq, mLst_ap, mTup_ap, mYes_ap, frz, frzAll, peek, res1, resAll, stoAll, argOf, argsOf, bors, wback, outAt, outsFrom, ownsStay, retv, wipeF, unwipe, sto, isNone, tyD, cY, cMul, cMod, cDiv, cPow, Cell.data, b2n, atI, ixN, fMulL, h1, shopB]
  | .bool _, hp, h1 => simp [bis_shop, mVar_ap, mLit_ap, m2_ap, mB_ap, mAndT_ap, mOrT_ap, mNotT_ap, mAndV_ap, mOrV_ap, mNotV_ap, mIfE_ap, mNil_ap, mCons_ap, mDisp_ap, gSet_ap, gsNil_ap, gsCons_ap, gTupD_ap, mSet_ap, mAsg_ap, mPar_ap, mExpr_ap, mRet_ap, mRetN_ap, mNext_ap, mBreak_ap, mCont_ap, mSeq_ap, mIf_ap, iSeq_ap, iRan_ap, iZp_ap, mFor_ap, mWhile_ap, mCall_ap, mkD_ap, mLc_ap, fI_ap, fAdd_ap, fSub_ap, fMul_ap, fMod_ap, fDiv_ap, fPow_ap, fLt_ap, fLe_ap, fGt_ap, fGe_ap, fIsN_ap, fNotN_ap, fIsB_ap, fIx_ap, fAddX_ap, fSubX_ap, fMulX_ap, m1_ap, fNeg_ap, mB1_ap, fLen_ap, fAbs_ap, fInt_ap, fMin2_ap, fMax2_ap, fList_ap, fTuple_ap, fStr_ap, mMt_ap, mMtZ_ap, fAppend_ap, fInsert_ap, fPopAt_ap, oNone_ap, oSome_ap, mSl_ap, gIx_ap, mIsi_ap, fEqX_ap, fNeX_ap, fAll_ap, fAny_ap, fSum_ap, fSorted_ap, fBest_ap, fIdx_ap, fRepr_ap, mPermA_ap, fBack_ap, gSplice_ap, mSortSet_ap, fMulY_ap, mTupRan_ap, fIsX_ap, ia_none_int, ia_none_bool, ia_none_list, ia_none_tuple, ia_none_str, ia_none_seq, ia_bool_int, ia_bool_bool, ia_bool_list, ia_bool_tuple, ia_bool_str, ia_bool_seq, ia_int_int, ia_int_bool, ia_int_list, ia_int_tuple, ia_int_str, ia_int_seq, ia_str_int, ia_str_bool, ia_str_list, ia_str_tuple, ia_str_str, ia_str_seq, ia_list_int, ia_list_bool, ia_list_list, ia_list_tuple, ia_list_str, ia_list_seq, ia_tuple_int, ia_tuple_bool, ia_tuple_list, ia_tuple_tuple, ia_tuple_str, ia_tuple_seq, mLst_ap, mTup_ap, mYes_ap, frz, frzAll, peek, res1, resAll, stoAll, argOf, argsOf, bors, wback, outAt, outsFrom, ownsStay, retv, wipeF, unwipe, sto, isNone, tyD, cY, cMul, cMod, cDiv, cPow, Cell.data, b2n, atI, ixN, fMulL, h1, shopB]
  | .int _, hp, h1 => simp [bis_shop, mVar_ap, mLit_ap, m2_ap, mB_ap, mAndT_ap, mOrT_ap, mNotT_ap, mAndV_ap, mOrV_ap, mNotV_ap, mIfE_ap, mNil_ap, mCons_ap, mDisp_ap, gSet_ap, gsNil_ap, gsCons_ap, gTupD_ap, mSet_ap, mAsg_ap, mPar_ap, mExpr_ap, mRet_ap, mRetN_ap, mNext_ap, mBreak_ap, mCont_ap, mSeq_ap, mIf_ap, iSeq_ap, iRan_ap, iZp_ap, mFor_ap, mWhile_ap, mCall_ap, mkD_ap, mLc_ap, fI_ap, fAdd_ap, fSub_ap, fMul_ap, fMod_ap, fDiv_ap, fPow_ap, fLt_ap, fLe_ap, fGt_ap, fGe_ap, fIsN_ap, fNotN_ap, fIsB_ap, fIx_ap, fAddX_ap, fSubX_ap, fMulX_ap, m1_ap, fNeg_ap, mB1_ap, fLen_ap, fAbs_ap, fInt_ap, fMin2_ap, fMax2_ap, fList_ap, fTuple_ap, fStr_ap, mMt_ap, mMtZ_ap, fAppend_ap, fInsert_ap, fPopAt_ap, oNone_ap, oSome_ap, mSl_ap, gIx_ap, mIsi_ap, fEqX_ap, fNeX_ap, fAll_ap, fAny_ap, fSum_ap, fSorted_ap, fBest_ap, fIdx_ap, fRepr_ap, mPermA_ap, fBack_ap, gSplice_ap, mSortSet_ap, fMulY_ap, mTupRan_ap, fIsX_ap, ia_none_int, ia_none_bool, ia_none_list, ia_none_tuple, ia_none_str, ia_none_seq, ia_bool_int, ia_bool_bool, ia_bool_list, ia_bool_tuple, ia_bool_str, ia_bool_seq, ia_int_int, ia_int_bool, ia_int_list, ia_int_tuple, ia_int_str, ia_int_seq, ia_str_int, ia_str_bool, ia_str_list, ia_str_tuple, ia_str_str, ia_str_seq, ia_list_int, ia_list_bool, ia_list_list, ia_list_tuple, ia_list_str, ia_list_seq, ia_tuple_int, ia_tuple_bool, ia_tuple_list, ia_tuple_tuple, ia_tuple_str, ia_tuple_seq, mLst_ap, mTup_ap, mYes_ap, frz, frzAll, peek, res1, resAll, stoAll, argOf, argsOf, bors, wback, outAt, outsFrom, ownsStay, retv, wipeF, unwipe, sto, isNone, tyD, cY, cMul, cMod, cDiv, cPow, Cell.data, b2n, atI, ixN, fMulL, h1, shopB]
  | .str _, hp, h1 => simp [bis_shop, mVar_ap, mLit_ap, m2_ap, mB_ap, mAndT_ap, mOrT_ap, mNotT_ap, mAndV_ap, mOrV_ap, mNotV_ap, mIfE_ap, mNil_ap, mCons_ap, mDisp_ap, gSet_ap, gsNil_ap, gsCons_ap, gTupD_ap, mSet_ap, mAsg_ap, mPar_ap, mExpr_ap, mRet_ap, mRetN_ap, mNext_ap, mBreak_ap, mCont_ap, mSeq_ap, mIf_ap, iSeq_ap, iRan_ap, iZp_ap, mFor_ap, mWhile_ap, mCall_ap, mkD_ap, mLc_ap, fI_ap, fAdd_ap, fSub_ap, fMul_ap, fMod_ap, fDiv_ap, fPow_ap, fLt_ap, fLe_ap, fGt_ap, fGe_ap, fIsN_ap, fNotN_ap, fIsB_ap, fIx_ap, fAddX_ap, fSubX_ap, fMulX_ap, m1_ap, fNeg_ap, mB1_ap, fLen_ap, fAbs_ap, fInt_ap, fMin2_ap, fMax2_ap, fList_ap, fTuple_ap, fStr_ap, mMt_ap, mMtZ_ap, fAppend_ap, fInsert_ap, fPopAt_ap, oNone_ap, oSome_ap, mSl_ap, gIx_ap, mIsi_ap, fEqX_ap, fNeX_ap, fAll_ap, fAny_ap, fSum_ap, fSorted_ap, fBest_ap, fIdx_ap, fRepr_ap, mPermA_ap, fBack_ap, gSplice_ap, mSortSet_ap, fMulY_ap, mTupRan_ap, fIsX_ap, ia_none_int, ia_none_bool, ia_none_list, ia_none_tuple, ia_none_str, ia_none_seq, ia_bool_int, ia_bool_bool, ia_bool_list, ia_bool_tuple, ia_bool_str, ia_bool_seq, ia_int_int, ia_int_bool, ia_int_list, ia_int_tuple, ia_int_str, ia_int_seq, ia_str_int, ia_str_bool, ia_str_list, ia_str_tuple, ia_str_str, ia_str_seq, ia_list_int, ia_list_bool, ia_list_list, ia_list_tuple, ia_list_str, ia_list_seq, ia_tuple_int, ia_tuple_bool, ia_tuple_list, ia_tuple_tuple, ia_tuple_str, ia_tuple_seq, mLst_ap, mTup_ap, mYes_ap, frz, frzAll, peek, res1, resAll, stoAll, argOf, argsOf, bors, wback, outAt, outsFrom, ownsStay, retv, wipeF, unwipe, sto, isNone, tyD, cY, cMul, cMod, cDiv, cPow, Cell.data, b2n, atI, ixN, fMulL, h1, shopB]
  | .list _, hp, h1 => simp [bis_shop, mVar_ap, mLit_ap, m2_ap, mB_ap, mAndT_ap, mOrT_ap, mNotT_ap, mAndV_ap, mOrV_ap, mNotV_ap, mIfE_ap, mNil_ap, mCons_ap, mDisp_ap, gSet_ap, gsNil_ap, gsCons_ap, gTupD_ap, mSet_ap, mAsg_ap, mPar_ap, mExpr_ap, mRet_ap, mRetN_ap, mNext_ap, mBreak_ap, mCont_ap, mSeq_ap, mIf_ap, iSeq_ap, iRan_ap, iZp_ap, mFor_ap, mWhile_ap, mCall_ap, mkD_ap, mLc_ap, fI_ap, fAdd_ap, fSub_ap, fMul_ap, fMod_ap, fDiv_ap, fPow_ap, fLt_ap, fLe_ap, fGt_ap, fGe_ap, fIsN_ap, fNotN_ap, fIsB_ap, fIx_ap, fAddX_ap, fSubX_ap, fMulX_ap, m1_ap, fNeg_ap, mB1_ap, fLen_ap, fAbs_ap, fInt_ap, fMin2_ap, fMax2_ap, fList_ap, fTuple_ap, fStr_ap, mMt_ap, mMtZ_ap, fAppend_ap, fInsert_ap, fPopAt_ap, oNone_ap, oSome_ap, mSl_ap, gIx_ap, mIsi_ap, fEqX_ap, fNeX_ap, fAll_ap, fAny_ap, fSum_ap, fSorted_ap, fBest_ap, fIdx_ap, fRepr_ap, mPermA_ap, fBack_ap, gSplice_ap, mSortSet_ap, fMulY_ap, mTupRan_ap, fIsX_ap, ia_none_int, ia_none_bool, ia_none_list, ia_none_tuple, ia_none_str, ia_none_seq, ia_bool_int, ia_bool_bool, ia_bool_list, ia_bool_tuple, ia_bool_str, ia_bool_seq, ia_int_int, ia_int_bool, ia_int_list, ia_int_tuple, ia_int_str, ia_int_seq, ia_str_int, ia_str_bool, ia_str_list, ia_str_tuple, ia_str_str, ia_str_seq, ia_list_int, ia_list_bool, ia_list_list, ia_list_tuple, ia_list_str, ia_list_seq, ia_tuple_int, ia_tuple_bool, ia_tuple_list, ia_tuple_tuple, ia_tuple_str, ia_tuple_seq, mLst_ap, mTup_ap, mYes_ap, frz, frzAll, peek, res1, resAll, stoAll, argOf, argsOf, bors, wback, outAt, outsFrom, ownsStay, retv, wipeF, unwipe, sto, isNone, tyD, cY, cMul, cMod, cDiv, cPow, Cell.data, b2n, atI, ixN, fMulL, h1, shopB]
  | .tuple [], hp, h1 => simp [bis_shop, mVar_ap, mLit_ap, m2_ap, mB_ap, mAndT_ap, mOrT_ap, mNotT_ap, mAndV_ap, mOrV_ap, mNotV_ap, mIfE_ap, mNil_ap, mCons_ap, mDisp_ap, gSet_ap, gsNil_ap, gsCons_ap, gTupD_ap, mSet_ap, mAsg_ap, mPar_ap, mExpr_ap, mRet_ap, mRetN_ap, mNext_ap, mBreak_ap, mCont_ap, mSeq_ap, mIf_ap, iSeq_ap, iRan_ap, iZp_ap, mFor_ap, mWhile_ap, mCall_ap, mkD_ap, mLc_ap, fI_ap, fAdd_ap, fSub_ap, fMul_ap, fMod_ap, fDiv_ap, fPow_ap, fLt_ap, fLe_ap, fGt_ap, fGe_ap, fIsN_ap, fNotN_ap, fIsB_ap, fIx_ap, fAddX_ap, fSubX_ap, fMulX_ap, m1_ap, fNeg_ap, mB1_ap, fLen_ap, fAbs_ap, fInt_ap, fMin2_ap, fMax2_ap, fList_ap, fTuple_ap, fStr_ap, mMt_ap, mMtZ_ap, fAppend_ap, fInsert_ap, fPopAt_ap, oNone_ap, oSome_ap, mSl_ap, gIx_ap, mIsi_ap, fEqX_ap, fNeX_ap, fAll_ap, fAny_ap, fSum_ap, fSorted_ap, fBest_ap, fIdx_ap, fRepr_ap, mPermA_ap, fBack_ap, gSplice_ap, mSortSet_ap, fMulY_ap, mTupRan_ap, fIsX_ap, ia_none_int, ia_none_bool, ia_none_list, ia_none_tuple, ia_none_str, ia_none_seq, ia_bool_int, ia_bool_bool, ia_bool_list, ia_bool_tuple, ia_bool_str, ia_bool_seq, ia_int_int, ia_int_bool, ia_int_list, ia_int_tuple, ia_int_str, ia_int_seq, ia_str_int, ia_str_bool, ia_str_list, ia_str_tuple, ia_str_str, ia_str_seq, ia_list_int, ia_list_bool, ia_list_list, ia_list_tuple, ia_list_str, ia_list_seq, ia_tuple_int, ia_tuple_bool, ia_tuple_list, ia_tuple_tuple, ia_tuple_str, ia_tuple_seq, mLst_ap, mTup_ap, mYes_ap, frz, frzAll, peek, res1, resAll, stoAll, argOf, argsOf, bors, wback, outAt, outsFrom, ownsStay, retv, wipeF, unwipe, sto, isNone, tyD, cY, cMul, cMod, cDiv, cPow, Cell.data, b2n, atI, ixN, fMulL, h1, shopB]
  | .tuple [_], hp, h1 => simp [bis_shop, mVar_ap, mLit_ap, m2_ap, mB_ap, mAndT_ap, mOrT_ap, mNotT_ap, mAndV_ap, mOrV_ap, mNotV_ap, mIfE_ap, mNil_ap, mCons_ap, mDisp_ap, gSet_ap, gsNil_ap, gsCons_ap, gTupD_ap, mSet_ap, mAsg_ap, mPar_ap, mExpr_ap, mRet_ap, mRetN_ap, mNext_ap, mBreak_ap, mCont_ap, mSeq_ap, mIf_ap, iSeq_ap, iRan_ap, iZp_ap, mFor_ap, mWhile_ap, mCall_ap, mkD_ap, mLc_ap, fI_ap, fAdd_ap, fSub_ap, fMul_ap, fMod_ap, fDiv_ap, fPow_ap, fLt_ap, fLe_ap, fGt_ap, fGe_ap, fIsN_ap, fNotN_ap, fIsB_ap, fIx_ap, fAddX_ap, fSubX_ap, fMulX_ap, m1_ap, fNeg_ap, mB1_ap, fLen_ap, fAbs_ap, fInt_ap, fMin2_ap, fMax2_ap, fList_ap, fTuple_ap, fStr_ap, mMt_ap, mMtZ_ap, fAppend_ap, fInsert_ap, fPopAt_ap, oNone_ap, oSome_ap, mSl_ap, gIx_ap, mIsi_ap, fEqX_ap, fNeX_ap, fAll_ap, fAny_ap, fSum_ap, fSorted_ap, fBest_ap, fIdx_ap, fRepr_ap, mPermA_ap, fBack_ap, gSplice_ap, mSortSet_ap, fMulY_ap, mTupRan_ap, fIsX_ap, ia_none_int, ia_none_bool, ia_none_list, ia_none_tuple, ia_none_str, ia_none_seq, ia_bool_int, ia_bool_bool, ia_bool_list, ia_bool_tuple, ia_bool_str, ia_bool_seq, ia_int_int, ia_int_bool, ia_int_list, ia_int_tuple, ia_int_str, ia_int_seq, ia_str_int, ia_str_bool, ia_str_list, ia_str_tuple, ia_str_str, ia_str_seq, ia_list_int, ia_list_bool, ia_list_list, ia_list_tuple, ia_list_str, ia_list_seq, ia_tuple_int, ia_tuple_bool, ia_tuple_list, ia_tuple_tuple, ia_tuple_str, ia_tuple_seq, mLst_ap, mTup_ap, mYes_ap, frz, frzAll, peek, res1, resAll, stoAll, argOf, argsOf, bors, wback, outAt, outsFrom, ownsStay, retv, wipeF, unwipe, sto, isNone, tyD, cY, cMul, cMod, cDiv, cPow, Cell.data, b2n, atI, ixN, fMulL, h1, shopB]
  | .tuple (_ :: _ :: _ :: _), hp, h1 => simp [bis_shop, mVar_ap, mLit_ap, m2_ap, mB_ap, mAndT_ap, mOrT_ap, mNotT_ap, mAndV_ap, mOrV_ap, mNotV_ap, mIfE_ap, mNil_ap, mCons_ap, mDisp_ap, gSet_ap, gsNil_ap, gsCons_ap, gTupD_ap, mSet_ap, mAsg_ap, mPar_ap, mExpr_ap, mRet_ap, mRetN_ap, mNext_ap, mBreak_ap, mCont_ap, mSeq_ap, mIf_ap, iSeq_ap, iRan_ap, iZp_ap, mFor_ap, mWhile_ap, mCall_ap, mkD_ap, mLc_ap, fI_ap, fAdd_ap, fSub_ap, fMul_ap, fMod_ap, fDiv_ap, fPow_ap, fLt_ap, fLe_ap, fGt_ap, fGe_ap, fIsN_ap, fNotN_ap, fIsB_ap, fIx_ap, fAddX_ap, fSubX_ap, fMulX_ap, m1_ap, fNeg_ap, mB1_ap, fLen_ap, fAbs_ap, fInt_ap, fMin2_ap, fMax2_ap, fList_ap, fTuple_ap, fStr_ap, mMt_ap, mMtZ_ap, fAppend_ap, fInsert_ap, fPopAt_ap, oNone_ap, oSome_ap, mSl_ap, gIx_ap, mIsi_ap, fEqX_ap, fNeX_ap, fAll_ap, fAny_ap, fSum_ap, fSorted_ap, fBest_ap, fIdx_ap, fRepr_ap, mPermA_ap, fBack_ap, gSplice_ap, mSortSet_ap, fMulY_ap, mTupRan_ap, fIsX_ap, ia_none_int, ia_none_bool, ia_none_list, ia_none_tuple, ia_none_str, ia_none_seq, ia_bool_int, ia_bool_bool, ia_bool_list, ia_bool_tuple, ia_bool_str, ia_bool_seq, ia_int_int, ia_int_bool, ia_int_list, ia_int_tuple, ia_int_str, ia_int_seq, ia_str_int, ia_str_bool, ia_str_list, ia_str_tuple, ia_str_str, ia_str_seq, ia_list_int, ia_list_bool, ia_list_list, ia_list_tuple, ia_list_str, ia_list_seq, ia_tuple_int, ia_tuple_bool, ia_tuple_list, ia_tuple_tuple, ia_tuple_str, ia_tuple_seq, mLst_ap, mTup_ap, mYes_ap, frz, frzAll, peek, res1, resAll, stoAll, argOf, argsOf, bors, wback, outAt, outsFrom, ownsStay, retv, wipeF, unwipe, sto, isNone, tyD, cY, cMul, cMod, cDiv, cPow, Cell.data, b2n, atI, ixN, fMulL, h1, shopB]
  | .dict _, hp, h1 => have := hp.p; simp [plainD] at this
  | .tuple [x, y], hp, h1 =>
    have hx := (hp.2 _ rfl).2 x (by simp)
    have hy := (hp.2 _ rfl).2 y (by simp)
    have h2 := sizes_ok (n := n) (by omega) hx.p fun ds e => ⟨Nat.le_trans (hx.2 ds e).1 (by decide), fun z m => ((hx.2 ds e).2 z m).p⟩
    have h3 := ranges_ok (n := n) (by omega) hy.p fun ds e => ⟨Nat.le_trans (hy.2 ds e).1 (by decide), fun z m => ⟨((hy.2 ds e).2 z m).p, fun es e2 w m2 => ((((hy.2 ds e).2 z m).2 es e2).2 w m2).p⟩⟩
    simp [bis_shop, mVar_ap, mLit_ap, m2_ap, mB_ap, mAndT_ap, mOrT_ap, mNotT_ap, mAndV_ap, mOrV_ap, mNotV_ap, mIfE_ap, mNil_ap, mCons_ap, mDisp_ap, gSet_ap, gsNil_ap, gsCons_ap, gTupD_ap, mSet_ap, mAsg_ap, mPar_ap, mExpr_ap, mRet_ap, mRetN_ap, mNext_ap, mBreak_ap, mCont_ap, mSeq_ap, mIf_ap, iSeq_ap, iRan_ap, iZp_ap, mFor_ap, mWhile_ap, mCall_ap, mkD_ap, mLc_ap, fI_ap, fAdd_ap, fSub_ap, fMul_ap, fMod_ap, fDiv_ap, fPow_ap, fLt_ap, fLe_ap, fGt_ap, fGe_ap, fIsN_ap, fNotN_ap, fIsB_ap, fIx_ap, fAddX_ap, fSubX_ap, fMulX_ap, m1_ap, fNeg_ap, mB1_ap, fLen_ap, fAbs_ap, fInt_ap, fMin2_ap, fMax2_ap, fList_ap, fTuple_ap, fStr_ap, mMt_ap, mMtZ_ap, fAppend_ap, fInsert_ap, fPopAt_ap, oNone_ap, oSome_ap, mSl_ap, gIx_ap, mIsi_ap, fEqX_ap, fNeX_ap, fAll_ap, fAny_ap, fSum_ap, fSorted_ap, fBest_ap, fIdx_ap, fRepr_ap, mPermA_ap, fBack_ap, gSplice_ap, mSortSet_ap, fMulY_ap, mTupRan_ap, fIsX_ap, ia_none_int, ia_none_bool, ia_none_list, ia_none_tuple, ia_none_str, ia_none_seq, ia_bool_int, ia_bool_bool, ia_bool_list, ia_bool_tuple, ia_bool_str, ia_bool_seq, ia_int_int, ia_int_bool, ia_int_list, ia_int_tuple, ia_int_str, ia_int_seq, ia_str_int, ia_str_bool, ia_str_list, ia_str_tuple, ia_str_str, ia_str_seq, ia_list_int, ia_list_bool, ia_list_list, ia_list_tuple, ia_list_str, ia_list_seq, ia_tuple_int, ia_tuple_bool, ia_tuple_list, ia_tuple_tuple, ia_tuple_str, ia_tuple_seq, mLst_ap, mTup_ap, mYes_ap, frz, frzAll, peek, res1, resAll, stoAll, argOf, argsOf, bors, wback, outAt, outsFrom, ownsStay, retv, wipeF, unwipe, sto, isNone, tyD, cY, cMul, cMod, cDiv, cPow, Cell.data, b2n, atI, ixN, fMulL, h1, h2, shopB]
    cases sizesB x <;> simp [h3, mVar_ap, mLit_ap, m2_ap, mB_ap, mAndT_ap, mOrT_ap, mNotT_ap, mAndV_ap, mOrV_ap, mNotV_ap, mIfE_ap, mNil_ap, mCons_ap, mDisp_ap, gSet_ap, gsNil_ap, gsCons_ap, gTupD_ap, mSet_ap, mAsg_ap, mPar_ap, mExpr_ap, mRet_ap, mRetN_ap, mNext_ap, mBreak_ap, mCont_ap, mSeq_ap, mIf_ap, iSeq_ap, iRan_ap, iZp_ap, mFor_ap, mWhile_ap, mCall_ap, mkD_ap, mLc_ap, fI_ap, fAdd_ap, fSub_ap, fMul_ap, fMod_ap, fDiv_ap, fPow_ap, fLt_ap, fLe_ap, fGt_ap, fGe_ap, fIsN_ap, fNotN_ap, fIsB_ap, fIx_ap, fAddX_ap, fSubX_ap, fMulX_ap, m1_ap, fNeg_ap, mB1_ap, fLen_ap, fAbs_ap, fInt_ap, fMin2_ap, fMax2_ap, fList_ap, fTuple_ap, fStr_ap, mMt_ap, mMtZ_ap, fAppend_ap, fInsert_ap, fPopAt_ap, oNone_ap, oSome_ap, mSl_ap, gIx_ap, mIsi_ap, fEqX_ap, fNeX_ap, fAll_ap, fAny_ap, fSum_ap, fSorted_ap, fBest_ap, fIdx_ap, fRepr_ap, mPermA_ap, fBack_ap, gSplice_ap, mSortSet_ap, fMulY_ap, mTupRan_ap, fIsX_ap, ia_none_int, ia_none_bool, ia_none_list, ia_none_tuple, ia_none_str, ia_none_seq, ia_bool_int, ia_bool_bool, ia_bool_list, ia_bool_tuple, ia_bool_str, ia_bool_seq, ia_int_int, ia_int_bool, ia_int_list, ia_int_tuple, ia_int_str, ia_int_seq, ia_str_int, ia_str_bool, ia_str_list, ia_str_tuple, ia_str_str, ia_str_seq, ia_list_int, ia_list_bool, ia_list_list, ia_list_tuple, ia_list_str, ia_list_seq, ia_tuple_int, ia_tuple_bool, ia_tuple_list, ia_tuple_tuple, ia_tuple_str, ia_tuple_seq, mLst_ap, mTup_ap, mYes_ap, frz, frzAll, peek, res1, resAll, stoAll, argOf, argsOf, bors, wback, outAt, outsFrom, ownsStay, retv, wipeF, unwipe, sto, isNone, tyD, cY, cMul, cMod, cDiv, cPow, Cell.data, b2n, atI, ixN, fMulL]
end Lk01

namespace Lk01
open PySem PySem.Spec PyProof.Rows L2 Rf
def onlyB : PyData → Bool
  | .tuple ds => !ds.isEmpty && ds.all sizeB
  | _ => false
theorem integer_ok {n : Nat} (hn : 1 ≤ n) {d : PyData} (hd : plainD d = true) : D_integer n [.dat d] = some (.dat (.bool (numB d)), [.dat d]) := by
  obtain ⟨n, rfl⟩ : ∃ m, n = m + 1 := ⟨n - 1, by omega⟩
  rw [e_integer]
  cases d <;> simp [plainD] at hd <;> simp [b_integer, mVar_ap, mLit_ap, m2_ap, mB_ap, mAndT_ap, mOrT_ap, mNotT_ap, mAndV_ap, mOrV_ap, mNotV_ap, mIfE_ap, mNil_ap, mCons_ap, mDisp_ap, gSet_ap, gsNil_ap, gsCons_ap, gTupD_ap, mSet_ap, mAsg_ap, mPar_ap, mExpr_ap, mRet_ap, mRetN_ap, mNext_ap, mBreak_ap, mCont_ap, mSeq_ap, mIf_ap, iSeq_ap, iRan_ap, iZp_ap, mFor_ap, mWhile_ap, mCall_ap, mkD_ap, mLc_ap, fI_ap, fAdd_ap, fSub_ap, fMul_ap, fMod_ap, fDiv_ap, fPow_ap, fLt_ap, fLe_ap, fGt_ap, fGe_ap, fIsN_ap, fNotN_ap, fIsB_ap, fIx_ap, fAddX_ap, fSubX_ap, fMulX_ap, m1_ap, fNeg_ap, mB1_ap, fLen_ap, fAbs_ap, fInt_ap, fMin2_ap, fMax2_ap, fList_ap, fTuple_ap, fStr_ap, mMt_ap, mMtZ_ap, fAppend_ap, fInsert_ap, fPopAt_ap, oNone_ap, oSome_ap, mSl_ap, gIx_ap, mIsi_ap, fEqX_ap, fNeX_ap, fAll_ap, fAny_ap, fSum_ap, fSorted_ap, fBest_ap, fIdx_ap, fRepr_ap, mPermA_ap, fBack_ap, gSplice_ap, mSortSet_ap, fMulY_ap, mTupRan_ap, fIsX_ap, ia_none_int, ia_none_bool, ia_none_list, ia_none_tuple, ia_none_str, ia_none_seq, ia_bool_int, ia_bool_bool, ia_bool_list, ia_bool_tuple, ia_bool_str, ia_bool_seq, ia_int_int, ia_int_bool, ia_int_list, ia_int_tuple, ia_int_str, ia_int_seq, ia_str_int, ia_str_bool, ia_str_list, ia_str_tuple, ia_str_str, ia_str_seq, ia_list_int, ia_list_bool, ia_list_list, ia_list_tuple, ia_list_str, ia_list_seq, ia_tuple_int, ia_tuple_bool, ia_tuple_list, ia_tuple_tuple, ia_tuple_str, ia_tuple_seq, mLst_ap, mTup_ap, mYes_ap, frz, frzAll, peek, res1, resAll, stoAll, argOf, argsOf, bors, wback, outAt, outsFrom, ownsStay, retv, wipeF, unwipe, sto, isNone, tyD, cY, cMul, cMod, cDiv, cPow, Cell.data, b2n, atI, ixN, fMulL, numB]
theorem shaped_nil : SeqAt.shaped (.tuple []) = true := by simp [SeqAt.shaped, PyData.canLay0, PyData.canLayAll0, PyData.depth, PyData.depthAll]
theorem eqv_nil (ds : List PyData) : PyData.eqv (.tuple ds) (.tuple []) = ds.isEmpty := by cases ds <;> simp [PyData.eqv, PyData.eqvAll]
theorem only_ok {n : Nat} (hn : 2 ≤ n) {d : PyData} (hp : Pl 1 d) : D_sizes_only n [.dat d] = some (.dat (.bool (onlyB d)), [.dat d]) := by
  obtain ⟨n, rfl⟩ : ∃ m, n = m + 1 := ⟨n - 1, by omega⟩
  have hs := hp.s
  rw [e_sizes_only]
  match d, hp, hs with
  | .none, _, _ => simp [b_sizes_only, mVar_ap, mLit_ap, m2_ap, mB_ap, mAndT_ap, mOrT_ap, mNotT_ap, mAndV_ap, mOrV_ap, mNotV_ap, mIfE_ap, mNil_ap, mCons_ap, mDisp_ap, gSet_ap, gsNil_ap, gsCons_ap, gTupD_ap, mSet_ap, mAsg_ap, mPar_ap, mExpr_ap, mRet_ap, mRetN_ap, mNext_ap, mBreak_ap, mCont_ap, mSeq_ap, mIf_ap, iSeq_ap, iRan_ap, iZp_ap, mFor_ap, mWhile_ap, mCall_ap, mkD_ap, mLc_ap, fI_ap, fAdd_ap, fSub_ap, fMul_ap, fMod_ap, fDiv_ap, fPow_ap, fLt_ap, fLe_ap, fGt_ap, fGe_ap, fIsN_ap, fNotN_ap, fIsB_ap, fIx_ap, fAddX_ap, fSubX_ap, fMulX_ap, m1_ap, fNeg_ap, mB1_ap, fLen_ap, fAbs_ap, fInt_ap, fMin2_ap, fMax2_ap, fList_ap, fTuple_ap, fStr_ap, mMt_ap, mMtZ_ap, fAppend_ap, fInsert_ap, fPopAt_ap, oNone_ap, oSome_ap, mSl_ap, gIx_ap, mIsi_ap, fEqX_ap, fNeX_ap, fAll_ap, fAny_ap, fSum_ap, fSorted_ap, fBest_ap, fIdx_ap, fRepr_ap, mPermA_ap, fBack_ap, gSplice_ap, mSortSet_ap, fMulY_ap, mTupRan_ap, fIsX_ap, ia_none_int, ia_none_bool, ia_none_list, ia_none_tuple, ia_none_str, ia_none_seq, ia_bool_int, ia_bool_bool, ia_bool_list, ia_bool_tuple, ia_bool_str, ia_bool_seq, ia_int_int, ia_int_bool, ia_int_list, ia_int_tuple, ia_int_str, ia_int_seq, ia_str_int, ia_str_bool, ia_str_list, ia_str_tuple, ia_str_str, ia_str_seq, ia_list_int, ia_list_bool, ia_list_list, ia_list_tuple, ia_list_str, ia_list_seq, ia_tuple_int, ia_tuple_bool, ia_tuple_list, ia_tuple_tuple, ia_tuple_str, ia_tuple_seq, mLst_ap, mTup_ap, mYes_ap, frz, frzAll, peek, res1, resAll, stoAll, argOf, argsOf, bors, wback, outAt, outsFrom, ownsStay, retv, wipeF, unwipe, sto, isNone, tyD, cY, cMul, cMod, cDiv, cPow, Cell.data, b2n, atI, ixN, fMulL, onlyB]
  | .bool _, _, _ => simp [b_sizes_only, mVar_ap, mLit_ap, m2_ap, mB_ap, mAndT_ap, mOrT_ap, mNotT_ap, mAndV_ap, mOrV_ap, mNotV_ap, mIfE_ap, mNil_ap, mCons_ap, mDisp_ap, gSet_ap, gsNil_ap, gsCons_ap, gTupD_ap, mSet_ap, mAsg_ap, mPar_ap, mExpr_ap, mRet_ap, mRetN_ap, mNext_ap, mBreak_ap, mCont_ap, mSeq_ap, mIf_ap, iSeq_ap, iRan_ap, iZp_ap, mFor_ap, mWhile_ap, mCall_ap, mkD_ap, mLc_ap, fI_ap, fAdd_ap, fSub_ap, fMul_ap, fMod_ap, fDiv_ap, fPow_ap, fLt_ap, fLe_ap, fGt_ap, fGe_ap, fIsN_ap, fNotN_ap, fIsB_ap, fIx_ap, fAddX_ap, fSubX_ap, fMulX_ap, m1_ap, fNeg_ap, mB1_ap, fLen_ap, fAbs_ap, fInt_ap, fMin2_ap, fMax2_ap, fList_ap, fTuple_ap, fStr_ap, mMt_ap, mMtZ_ap, fAppend_ap, fInsert_ap, fPopAt_ap, oNone_ap, oSome_ap, mSl_ap, gIx_ap, mIsi_ap, fEqX_ap, fNeX_ap, fAll_ap, fAny_ap, fSum_ap, fSorted_ap, fBest_ap, fIdx_ap, fRepr_ap, mPermA_ap, fBack_ap, gSplice_ap, mSortSet_ap, fMulY_ap, mTupRan_ap, fIsX_ap, ia_none_int, ia_none_bool, ia_none_list, ia_none_tuple, ia_none_str, ia_none_seq, ia_bool_int, ia_bool_bool, ia_bool_list, ia_bool_tuple, ia_bool_str, ia_bool_seq, ia_int_int, ia_int_bool, ia_int_list, ia_int_tuple, ia_int_str, ia_int_seq, ia_str_int, ia_str_bool, ia_str_list, ia_str_tuple, ia_str_str, ia_str_seq, ia_list_int, ia_list_bool, ia_list_list, ia_list_tuple, ia_list_str, ia_list_seq, ia_tuple_int, ia_tuple_bool, ia_tuple_list, ia_tuple_tuple, ia_tuple_str, ia_tuple_seq, mLst_ap, mTup_ap, mYes_ap, frz, frzAll, peek, res1, resAll, stoAll, argOf, argsOf, bors, wback, outAt, outsFrom, ownsStay, retv, wipeF, unwipe, sto, isNone, tyD, cY, cMul, cMod, cDiv, cPow, Cell.data, b2n, atI, ixN, fMulL, onlyB]
  | .int _, _, _ => simp [b_sizes_only, mVar_ap, mLit_ap, m2_ap, mB_ap, mAndT_ap, mOrT_ap, mNotT_ap, mAndV_ap, mOrV_ap, mNotV_ap, mIfE_ap, mNil_ap, mCons_ap, mDisp_ap, gSet_ap, gsNil_ap, gsCons_ap, gTupD_ap, mSet_ap, mAsg_ap, mPar_ap, mExpr_ap, mRet_ap, mRetN_ap, mNext_ap, mBreak_ap, mCont_ap, mSeq_ap, mIf_ap, iSeq_ap, iRan_ap, iZp_ap, mFor_ap, mWhile_ap, mCall_ap, mkD_ap, mLc_ap, fI_ap, fAdd_ap, fSub_ap, fMul_ap, fMod_ap, fDiv_ap, fPow_ap, fLt_ap, fLe_ap, fGt_ap, fGe_ap, fIsN_ap, fNotN_ap, fIsB_ap, fIx_ap, fAddX_ap, fSubX_ap, fMulX_ap, m1_ap, fNeg_ap, mB1_ap, fLen_ap, fAbs_ap, fInt_ap, fMin2_ap, fMax2_ap, fList_ap, fTuple_ap, fStr_ap, mMt_ap, mMtZ_ap, fAppend_ap, fInsert_ap, fPopAt_ap, oNone_ap, oSome_ap, mSl_ap, gIx_ap, mIsi_ap, fEqX_ap, fNeX_ap, fAll_ap, fAny_ap, fSum_ap, fSorted_ap, fBest_ap, fIdx_ap, fRepr_ap, mPermA_ap, fBack_ap, gSplice_ap, mSortSet_ap, fMulY_ap, mTupRan_ap, fIsX_ap, ia_none_int, ia_none_bool, ia_none_list, ia_none_tuple, ia_none_str, ia_none_seq, ia_bool_int, ia_bool_bool, ia_bool_list, ia_bool_tuple, ia_bool_str, ia_bool_seq, ia_int_int, ia_int_bool, ia_int_list, ia_int_tuple, ia_int_str, ia_int_seq, ia_str_int, ia_str_bool, ia_str_list, ia_str_tuple, ia_str_str, ia_str_seq, ia_list_int, ia_list_bool, ia_list_list, ia_list_tuple, ia_list_str, ia_list_seq, ia_tuple_int, ia_tuple_bool, ia_tuple_list, ia_tuple_tuple, ia_tuple_str, ia_tuple_seq, mLst_ap, mTup_ap, mYes_ap, frz, frzAll, peek, res1, resAll, stoAll, argOf, argsOf, bors, wback, outAt, outsFrom, ownsStay, retv, wipeF, unwipe, sto, isNone, tyD, cY, cMul, cMod, cDiv, cPow, Cell.data, b2n, atI, ixN, fMulL, onlyB]
  | .str _, _, _ => simp [b_sizes_only, mVar_ap, mLit_ap, m2_ap, mB_ap, mAndT_ap, mOrT_ap, mNotT_ap, mAndV_ap, mOrV_ap, mNotV_ap, mIfE_ap, mNil_ap, mCons_ap, mDisp_ap, gSet_ap, gsNil_ap, gsCons_ap, gTupD_ap, mSet_ap, mAsg_ap, mPar_ap, mExpr_ap, mRet_ap, mRetN_ap, mNext_ap, mBreak_ap, mCont_ap, mSeq_ap, mIf_ap, iSeq_ap, iRan_ap, iZp_ap, mFor_ap, mWhile_ap, mCall_ap, mkD_ap, mLc_ap, fI_ap, fAdd_ap, fSub_ap, fMul_ap, fMod_ap, fDiv_ap, fPow_ap, fLt_ap, fLe_ap, fGt_ap, fGe_ap, fIsN_ap, fNotN_ap, fIsB_ap, fIx_ap, fAddX_ap, fSubX_ap, fMulX_ap, m1_ap, fNeg_ap, mB1_ap, fLen_ap, fAbs_ap, fInt_ap, fMin2_ap, fMax2_ap, fList_ap, fTuple_ap, fStr_ap, mMt_ap, mMtZ_ap, fAppend_ap, fInsert_ap, fPopAt_ap, oNone_ap, oSome_ap, mSl_ap, gIx_ap, mIsi_ap, fEqX_ap, fNeX_ap, fAll_ap, fAny_ap, fSum_ap, fSorted_ap, fBest_ap, fIdx_ap, fRepr_ap, mPermA_ap, fBack_ap, gSplice_ap, mSortSet_ap, fMulY_ap, mTupRan_ap, fIsX_ap, ia_none_int, ia_none_bool, ia_none_list, ia_none_tuple, ia_none_str, ia_none_seq, ia_bool_int, ia_bool_bool, ia_bool_list, ia_bool_tuple, ia_bool_str, ia_bool_seq, ia_int_int, ia_int_bool, ia_int_list, ia_int_tuple, ia_int_str, ia_int_seq, ia_str_int, ia_str_bool, ia_str_list, ia_str_tuple, ia_str_str, ia_str_seq, ia_list_int, ia_list_bool, ia_list_list, ia_list_tuple, ia_list_str, ia_list_seq, ia_tuple_int, ia_tuple_bool, ia_tuple_list, ia_tuple_tuple, ia_tuple_str, ia_tuple_seq, mLst_ap, mTup_ap, mYes_ap, frz, frzAll, peek, res1, resAll, stoAll, argOf, argsOf, bors, wback, outAt, outsFrom, ownsStay, retv, wipeF, unwipe, sto, isNone, tyD, cY, cMul, cMod, cDiv, cPow, Cell.data, b2n, atI, ixN, fMulL, onlyB]
  | .list _, _, _ => simp [b_sizes_only, mVar_ap, mLit_ap, m2_ap, mB_ap, mAndT_ap, mOrT_ap, mNotT_ap, mAndV_ap, mOrV_ap, mNotV_ap, mIfE_ap, mNil_ap, mCons_ap, mDisp_ap, gSet_ap, gsNil_ap, gsCons_ap, gTupD_ap, mSet_ap, mAsg_ap, mPar_ap, mExpr_ap, mRet_ap, mRetN_ap, mNext_ap, mBreak_ap, mCont_ap, mSeq_ap, mIf_ap, iSeq_ap, iRan_ap, iZp_ap, mFor_ap, mWhile_ap, mCall_ap, mkD_ap, mLc_ap, fI_ap, fAdd_ap, fSub_ap, fMul_ap, fMod_ap, fDiv_ap, fPow_ap, fLt_ap, fLe_ap, fGt_ap, fGe_ap, fIsN_ap, fNotN_ap, fIsB_ap, fIx_ap, fAddX_ap, fSubX_ap, fMulX_ap, m1_ap, fNeg_ap, mB1_ap, fLen_ap, fAbs_ap, fInt_ap, fMin2_ap, fMax2_ap, fList_ap, fTuple_ap, fStr_ap, mMt_ap, mMtZ_ap, fAppend_ap, fInsert_ap, fPopAt_ap, oNone_ap, oSome_ap, mSl_ap, gIx_ap, mIsi_ap, fEqX_ap, fNeX_ap, fAll_ap, fAny_ap, fSum_ap, fSorted_ap, fBest_ap, fIdx_ap, fRepr_ap, mPermA_ap, fBack_ap, gSplice_ap, mSortSet_ap, fMulY_ap, mTupRan_ap, fIsX_ap, ia_none_int, ia_none_bool, ia_none_list, ia_none_tuple, ia_none_str, ia_none_seq, ia_bool_int, ia_bool_bool, ia_bool_list, ia_bool_tuple, ia_bool_str, ia_bool_seq, ia_int_int, ia_int_bool, ia_int_list, ia_int_tuple, ia_int_str, ia_int_seq, ia_str_int, ia_str_bool, ia_str_list, ia_str_tuple, ia_str_str, ia_str_seq, ia_list_int, ia_list_bool, ia_list_list, ia_list_tuple, ia_list_str, ia_list_seq, ia_tuple_int, ia_tuple_bool, ia_tuple_list, ia_tuple_tuple, ia_tuple_str, ia_tuple_seq, mLst_ap, mTup_ap, mYes_ap, frz, frzAll, peek, res1, resAll, stoAll, argOf, argsOf, bors, wback, outAt, outsFrom, ownsStay, retv, wipeF, unwipe, sto, isNone, tyD, cY, cMul, cMod, cDiv, cPow, Cell.data, b2n, atI, ixN, fMulL, onlyB]
  | .dict _, hp, h1 => have := hp.p; simp [plainD] at this
  | .tuple [], _, hs => simp [b_sizes_only, mVar_ap, mLit_ap, m2_ap, mB_ap, mAndT_ap, mOrT_ap, mNotT_ap, mAndV_ap, mOrV_ap, mNotV_ap, mIfE_ap, mNil_ap, mCons_ap, mDisp_ap, gSet_ap, gsNil_ap, gsCons_ap, gTupD_ap, mSet_ap, mAsg_ap, mPar_ap, mExpr_ap, mRet_ap, mRetN_ap, mNext_ap, mBreak_ap, mCont_ap, mSeq_ap, mIf_ap, iSeq_ap, iRan_ap, iZp_ap, mFor_ap, mWhile_ap, mCall_ap, mkD_ap, mLc_ap, fI_ap, fAdd_ap, fSub_ap, fMul_ap, fMod_ap, fDiv_ap, fPow_ap, fLt_ap, fLe_ap, fGt_ap, fGe_ap, fIsN_ap, fNotN_ap, fIsB_ap, fIx_ap, fAddX_ap, fSubX_ap, fMulX_ap, m1_ap, fNeg_ap, mB1_ap, fLen_ap, fAbs_ap, fInt_ap, fMin2_ap, fMax2_ap, fList_ap, fTuple_ap, fStr_ap, mMt_ap, mMtZ_ap, fAppend_ap, fInsert_ap, fPopAt_ap, oNone_ap, oSome_ap, mSl_ap, gIx_ap, mIsi_ap, fEqX_ap, fNeX_ap, fAll_ap, fAny_ap, fSum_ap, fSorted_ap, fBest_ap, fIdx_ap, fRepr_ap, mPermA_ap, fBack_ap, gSplice_ap, mSortSet_ap, fMulY_ap, mTupRan_ap, fIsX_ap, ia_none_int, ia_none_bool, ia_none_list, ia_none_tuple, ia_none_str, ia_none_seq, ia_bool_int, ia_bool_bool, ia_bool_list, ia_bool_tuple, ia_bool_str, ia_bool_seq, ia_int_int, ia_int_bool, ia_int_list, ia_int_tuple, ia_int_str, ia_int_seq, ia_str_int, ia_str_bool, ia_str_list, ia_str_tuple, ia_str_str, ia_str_seq, ia_list_int, ia_list_bool, ia_list_list, ia_list_tuple, ia_list_str, ia_list_seq, ia_tuple_int, ia_tuple_bool, ia_tuple_list, ia_tuple_tuple, ia_tuple_str, ia_tuple_seq, mLst_ap, mTup_ap, mYes_ap, frz, frzAll, peek, res1, resAll, stoAll, argOf, argsOf, bors, wback, outAt, outsFrom, ownsStay, retv, wipeF, unwipe, sto, isNone, tyD, cY, cMul, cMod, cDiv, cPow, Cell.data, b2n, atI, ixN, fMulL, onlyB, shaped_nil, eqv_nil]
  | .tuple (e :: es), hp, hs =>
    obtain ⟨hl, hx⟩ := hp.2 _ rfl
    have hc := compM_map (g := gSet 1) (me := mAndV (mCall (D_integer n) (mCons (mVar 1) mNil)) (m2 fGt (mVar 1) (mLit (.int 0)))) (vs := [1]) (fun d => PyData.bool (sizeB d)) [some (.dat (.tuple (e :: es))), none] (e :: es) [] (fun d m => by
      have h2 := integer_ok (n := n) (by omega) (hx d m).p
      refine ⟨[some (.dat (.tuple (e :: es))), some (.dat d)], .dat (.bool (sizeB d)), [some (.dat (.tuple (e :: es))), some (.dat d)], [some (.dat (.tuple (e :: es))), some (.dat d)], rfl, ?_, rfl, by simp [wipeF]⟩
      cases d <;> simp [mVar_ap, mLit_ap, m2_ap, mB_ap, mAndT_ap, mOrT_ap, mNotT_ap, mAndV_ap, mOrV_ap, mNotV_ap, mIfE_ap, mNil_ap, mCons_ap, mDisp_ap, gSet_ap, gsNil_ap, gsCons_ap, gTupD_ap, mSet_ap, mAsg_ap, mPar_ap, mExpr_ap, mRet_ap, mRetN_ap, mNext_ap, mBreak_ap, mCont_ap, mSeq_ap, mIf_ap, iSeq_ap, iRan_ap, iZp_ap, mFor_ap, mWhile_ap, mCall_ap, mkD_ap, mLc_ap, fI_ap, fAdd_ap, fSub_ap, fMul_ap, fMod_ap, fDiv_ap, fPow_ap, fLt_ap, fLe_ap, fGt_ap, fGe_ap, fIsN_ap, fNotN_ap, fIsB_ap, fIx_ap, fAddX_ap, fSubX_ap, fMulX_ap, m1_ap, fNeg_ap, mB1_ap, fLen_ap, fAbs_ap, fInt_ap, fMin2_ap, fMax2_ap, fList_ap, fTuple_ap, fStr_ap, mMt_ap, mMtZ_ap, fAppend_ap, fInsert_ap, fPopAt_ap, oNone_ap, oSome_ap, mSl_ap, gIx_ap, mIsi_ap, fEqX_ap, fNeX_ap, fAll_ap, fAny_ap, fSum_ap, fSorted_ap, fBest_ap, fIdx_ap, fRepr_ap, mPermA_ap, fBack_ap, gSplice_ap, mSortSet_ap, fMulY_ap, mTupRan_ap, fIsX_ap, ia_none_int, ia_none_bool, ia_none_list, ia_none_tuple, ia_none_str, ia_none_seq, ia_bool_int, ia_bool_bool, ia_bool_list, ia_bool_tuple, ia_bool_str, ia_bool_seq, ia_int_int, ia_int_bool, ia_int_list, ia_int_tuple, ia_int_str, ia_int_seq, ia_str_int, ia_str_bool, ia_str_list, ia_str_tuple, ia_str_str, ia_str_seq, ia_list_int, ia_list_bool, ia_list_list, ia_list_tuple, ia_list_str, ia_list_seq, ia_tuple_int, ia_tuple_bool, ia_tuple_list, ia_tuple_tuple, ia_tuple_str, ia_tuple_seq, mLst_ap, mTup_ap, mYes_ap, frz, frzAll, peek, res1, resAll, stoAll, argOf, argsOf, bors, wback, outAt, outsFrom, ownsStay, retv, wipeF, unwipe, sto, isNone, tyD, cY, cMul, cMod, cDiv, cPow, Cell.data, b2n, atI, ixN, fMulL, h2, numB, sizeB]
      omega) (by
      rw [sizeLine_v]; simp at hl ⊢; omega)
    have hb := boolsD_all sizeB (e :: es)
    have ha := all_map sizeB (e :: es)
    have h5 : onlyB (.tuple (e :: es)) = (e :: es).all sizeB := by simp only [onlyB]; simp
    rw [h5]
    simp only [b_sizes_only]
    simp [mVar_ap, mLit_ap, m2_ap, mB_ap, mAndT_ap, mOrT_ap, mNotT_ap, mAndV_ap, mOrV_ap, mNotV_ap, mIfE_ap, mNil_ap, mCons_ap, mDisp_ap, gSet_ap, gsNil_ap, gsCons_ap, gTupD_ap, mSet_ap, mAsg_ap, mPar_ap, mExpr_ap, mRet_ap, mRetN_ap, mNext_ap, mBreak_ap, mCont_ap, mSeq_ap, mIf_ap, iSeq_ap, iRan_ap, iZp_ap, mFor_ap, mWhile_ap, mCall_ap, mkD_ap, mLc_ap, fI_ap, fAdd_ap, fSub_ap, fMul_ap, fMod_ap, fDiv_ap, fPow_ap, fLt_ap, fLe_ap, fGt_ap, fGe_ap, fIsN_ap, fNotN_ap, fIsB_ap, fIx_ap, fAddX_ap, fSubX_ap, fMulX_ap, m1_ap, fNeg_ap, mB1_ap, fLen_ap, fAbs_ap, fInt_ap, fMin2_ap, fMax2_ap, fList_ap, fTuple_ap, fStr_ap, mMt_ap, mMtZ_ap, fAppend_ap, fInsert_ap, fPopAt_ap, oNone_ap, oSome_ap, mSl_ap, gIx_ap, mIsi_ap, fEqX_ap, fNeX_ap, fAll_ap, fAny_ap, fSum_ap, fSorted_ap, fBest_ap, fIdx_ap, fRepr_ap, mPermA_ap, fBack_ap, gSplice_ap, mSortSet_ap, fMulY_ap, mTupRan_ap, fIsX_ap, ia_none_int, ia_none_bool, ia_none_list, ia_none_tuple, ia_none_str, ia_none_seq, ia_bool_int, ia_bool_bool, ia_bool_list, ia_bool_tuple, ia_bool_str, ia_bool_seq, ia_int_int, ia_int_bool, ia_int_list, ia_int_tuple, ia_int_str, ia_int_seq, ia_str_int, ia_str_bool, ia_str_list, ia_str_tuple, ia_str_str, ia_str_seq, ia_list_int, ia_list_bool, ia_list_list, ia_list_tuple, ia_list_str, ia_list_seq, ia_tuple_int, ia_tuple_bool, ia_tuple_list, ia_tuple_tuple, ia_tuple_str, ia_tuple_seq, mLst_ap, mTup_ap, mYes_ap, frz, frzAll, peek, res1, resAll, stoAll, argOf, argsOf, bors, wback, outAt, outsFrom, ownsStay, retv, wipeF, unwipe, sto, isNone, tyD, cY, cMul, cMod, cDiv, cPow, Cell.data, b2n, atI, ixN, fMulL, hs, shaped_nil, eqv_nil]
    simp only [List.nil_append] at hc
    rw [hc]
    simp only [mVar_ap, mLit_ap, m2_ap, mB_ap, mAndT_ap, mOrT_ap, mNotT_ap, mAndV_ap, mOrV_ap, mNotV_ap, mIfE_ap, mNil_ap, mCons_ap, mDisp_ap, gSet_ap, gsNil_ap, gsCons_ap, gTupD_ap, mSet_ap, mAsg_ap, mPar_ap, mExpr_ap, mRet_ap, mRetN_ap, mNext_ap, mBreak_ap, mCont_ap, mSeq_ap, mIf_ap, iSeq_ap, iRan_ap, iZp_ap, mFor_ap, mWhile_ap, mCall_ap, mkD_ap, mLc_ap, fI_ap, fAdd_ap, fSub_ap, fMul_ap, fMod_ap, fDiv_ap, fPow_ap, fLt_ap, fLe_ap, fGt_ap, fGe_ap, fIsN_ap, fNotN_ap, fIsB_ap, fIx_ap, fAddX_ap, fSubX_ap, fMulX_ap, m1_ap, fNeg_ap, mB1_ap, fLen_ap, fAbs_ap, fInt_ap, fMin2_ap, fMax2_ap, fList_ap, fTuple_ap, fStr_ap, mMt_ap, mMtZ_ap, fAppend_ap, fInsert_ap, fPopAt_ap, oNone_ap, oSome_ap, mSl_ap, gIx_ap, mIsi_ap, fEqX_ap, fNeX_ap, fAll_ap, fAny_ap, fSum_ap, fSorted_ap, fBest_ap, fIdx_ap, fRepr_ap, mPermA_ap, fBack_ap, gSplice_ap, mSortSet_ap, fMulY_ap, mTupRan_ap, fIsX_ap, ia_none_int, ia_none_bool, ia_none_list, ia_none_tuple, ia_none_str, ia_none_seq, ia_bool_int, ia_bool_bool, ia_bool_list, ia_bool_tuple, ia_bool_str, ia_bool_seq, ia_int_int, ia_int_bool, ia_int_list, ia_int_tuple, ia_int_str, ia_int_seq, ia_str_int, ia_str_bool, ia_str_list, ia_str_tuple, ia_str_str, ia_str_seq, ia_list_int, ia_list_bool, ia_list_list, ia_list_tuple, ia_list_str, ia_list_seq, ia_tuple_int, ia_tuple_bool, ia_tuple_list, ia_tuple_tuple, ia_tuple_str, ia_tuple_seq, mLst_ap, mTup_ap, mYes_ap, frz, frzAll, peek, res1, resAll, stoAll, argOf, argsOf, bors, wback, outAt, outsFrom, ownsStay, retv, wipeF, unwipe, sto, isNone, tyD, cY, cMul, cMod, cDiv, cPow, Cell.data, b2n, atI, ixN, fMulL, hb, ha]
    simp [mVar_ap, mLit_ap, m2_ap, mB_ap, mAndT_ap, mOrT_ap, mNotT_ap, mAndV_ap, mOrV_ap, mNotV_ap, mIfE_ap, mNil_ap, mCons_ap, mDisp_ap, gSet_ap, gsNil_ap, gsCons_ap, gTupD_ap, mSet_ap, mAsg_ap, mPar_ap, mExpr_ap, mRet_ap, mRetN_ap, mNext_ap, mBreak_ap, mCont_ap, mSeq_ap, mIf_ap, iSeq_ap, iRan_ap, iZp_ap, mFor_ap, mWhile_ap, mCall_ap, mkD_ap, mLc_ap, fI_ap, fAdd_ap, fSub_ap, fMul_ap, fMod_ap, fDiv_ap, fPow_ap, fLt_ap, fLe_ap, fGt_ap, fGe_ap, fIsN_ap, fNotN_ap, fIsB_ap, fIx_ap, fAddX_ap, fSubX_ap, fMulX_ap, m1_ap, fNeg_ap, mB1_ap, fLen_ap, fAbs_ap, fInt_ap, fMin2_ap, fMax2_ap, fList_ap, fTuple_ap, fStr_ap, mMt_ap, mMtZ_ap, fAppend_ap, fInsert_ap, fPopAt_ap, oNone_ap, oSome_ap, mSl_ap, gIx_ap, mIsi_ap, fEqX_ap, fNeX_ap, fAll_ap, fAny_ap, fSum_ap, fSorted_ap, fBest_ap, fIdx_ap, fRepr_ap, mPermA_ap, fBack_ap, gSplice_ap, mSortSet_ap, fMulY_ap, mTupRan_ap, fIsX_ap, ia_none_int, ia_none_bool, ia_none_list, ia_none_tuple, ia_none_str, ia_none_seq, ia_bool_int, ia_bool_bool, ia_bool_list, ia_bool_tuple, ia_bool_str, ia_bool_seq, ia_int_int, ia_int_bool, ia_int_list, ia_int_tuple, ia_int_str, ia_int_seq, ia_str_int, ia_str_bool, ia_str_list, ia_str_tuple, ia_str_str, ia_str_seq, ia_list_int, ia_list_bool, ia_list_list, ia_list_tuple, ia_list_str, ia_list_seq, ia_tuple_int, ia_tuple_bool, ia_tuple_list, ia_tuple_tuple, ia_tuple_str, ia_tuple_seq, mLst_ap, mTup_ap, mYes_ap, frz, frzAll, peek, res1, resAll, stoAll, argOf, argsOf, bors, wback, outAt, outsFrom, ownsStay, retv, wipeF, unwipe, sto, isNone, tyD, cY, cMul, cMod, cDiv, cPow, Cell.data, b2n, atI, ixN, fMulL]
theorem part_ok {n : Nat} (hn : 2 ≤ n) {p d : PyData} (hp1 : Pl 1 d) : mAndV (mCall (D_sizes_only n) (mCons (mVar 1) mNil)) (mAndV (m2 fEqX (mB1 fLen (mCons (mVar 1) mNil)) (mLit (.int 2))) (m2 fLe (m2 fIx (mVar 1) (mLit (.int 0))) (m2 fIx (mVar 1) (mLit (.int 1))))) [some (.dat p), some (.dat d)] = some (.dat (.bool (rangeB d)), [some (.dat p), some (.dat d)]) := by
  have h2 := only_ok (n := n) hn hp1
  by_cases h : onlyB d = true
  · match d, h, h2 with
    | .tuple ds, h, h2 =>
      simp only [onlyB, Bool.and_eq_true] at h
      obtain ⟨ns, rfl, hs⟩ := ints_of_sizes h.2
      have h3 : onlyB (.tuple (ns.map .int)) = true := by simp only [onlyB, h.1, h.2]; rfl
      rw [h3] at h2
      match ns, h, h2, hs with
      | [], h, _, _ => simp at h
      | [i], h, h2, hs => simp [mVar_ap, mLit_ap, m2_ap, mB_ap, mAndT_ap, mOrT_ap, mNotT_ap, mAndV_ap, mOrV_ap, mNotV_ap, mIfE_ap, mNil_ap, mCons_ap, mDisp_ap, gSet_ap, gsNil_ap, gsCons_ap, gTupD_ap, mSet_ap, mAsg_ap, mPar_ap, mExpr_ap, mRet_ap, mRetN_ap, mNext_ap, mBreak_ap, mCont_ap, mSeq_ap, mIf_ap, iSeq_ap, iRan_ap, iZp_ap, mFor_ap, mWhile_ap, mCall_ap, mkD_ap, mLc_ap, fI_ap, fAdd_ap, fSub_ap, fMul_ap, fMod_ap, fDiv_ap, fPow_ap, fLt_ap, fLe_ap, fGt_ap, fGe_ap, fIsN_ap, fNotN_ap, fIsB_ap, fIx_ap, fAddX_ap, fSubX_ap, fMulX_ap, m1_ap, fNeg_ap, mB1_ap, fLen_ap, fAbs_ap, fInt_ap, fMin2_ap, fMax2_ap, fList_ap, fTuple_ap, fStr_ap, mMt_ap, mMtZ_ap, fAppend_ap, fInsert_ap, fPopAt_ap, oNone_ap, oSome_ap, mSl_ap, gIx_ap, mIsi_ap, fEqX_ap, fNeX_ap, fAll_ap, fAny_ap, fSum_ap, fSorted_ap, fBest_ap, fIdx_ap, fRepr_ap, mPermA_ap, fBack_ap, gSplice_ap, mSortSet_ap, fMulY_ap, mTupRan_ap, fIsX_ap, ia_none_int, ia_none_bool, ia_none_list, ia_none_tuple, ia_none_str, ia_none_seq, ia_bool_int, ia_bool_bool, ia_bool_list, ia_bool_tuple, ia_bool_str, ia_bool_seq, ia_int_int, ia_int_bool, ia_int_list, ia_int_tuple, ia_int_str, ia_int_seq, ia_str_int, ia_str_bool, ia_str_list, ia_str_tuple, ia_str_str, ia_str_seq, ia_list_int, ia_list_bool, ia_list_list, ia_list_tuple, ia_list_str, ia_list_seq, ia_tuple_int, ia_tuple_bool, ia_tuple_list, ia_tuple_tuple, ia_tuple_str, ia_tuple_seq, mLst_ap, mTup_ap, mYes_ap, frz, frzAll, peek, res1, resAll, stoAll, argOf, argsOf, bors, wback, outAt, outsFrom, ownsStay, retv, wipeF, unwipe, sto, isNone, tyD, cY, cMul, cMod, cDiv, cPow, Cell.data, b2n, atI, ixN, fMulL, shaped_int, eqv_int, rangeB] at h2 ⊢; simp [mVar_ap, mLit_ap, m2_ap, mB_ap, mAndT_ap, mOrT_ap, mNotT_ap, mAndV_ap, mOrV_ap, mNotV_ap, mIfE_ap, mNil_ap, mCons_ap, mDisp_ap, gSet_ap, gsNil_ap, gsCons_ap, gTupD_ap, mSet_ap, mAsg_ap, mPar_ap, mExpr_ap, mRet_ap, mRetN_ap, mNext_ap, mBreak_ap, mCont_ap, mSeq_ap, mIf_ap, iSeq_ap, iRan_ap, iZp_ap, mFor_ap, mWhile_ap, mCall_ap, mkD_ap, mLc_ap, fI_ap, fAdd_ap, fSub_ap, fMul_ap, fMod_ap, fDiv_ap, fPow_ap, fLt_ap, fLe_ap, fGt_ap, fGe_ap, fIsN_ap, fNotN_ap, fIsB_ap, fIx_ap, fAddX_ap, fSubX_ap, fMulX_ap, m1_ap, fNeg_ap, mB1_ap, fLen_ap, fAbs_ap, fInt_ap, fMin2_ap, fMax2_ap, fList_ap, fTuple_ap, fStr_ap, mMt_ap, mMtZ_ap, fAppend_ap, fInsert_ap, fPopAt_ap, oNone_ap, oSome_ap, mSl_ap, gIx_ap, mIsi_ap, fEqX_ap, fNeX_ap, fAll_ap, fAny_ap, fSum_ap, fSorted_ap, fBest_ap, fIdx_ap, fRepr_ap, mPermA_ap, fBack_ap, gSplice_ap, mSortSet_ap, fMulY_ap, mTupRan_ap, fIsX_ap, ia_none_int, ia_none_bool, ia_none_list, ia_none_tuple, ia_none_str, ia_none_seq, ia_bool_int, ia_bool_bool, ia_bool_list, ia_bool_tuple, ia_bool_str, ia_bool_seq, ia_int_int, ia_int_bool, ia_int_list, ia_int_tuple, ia_int_str, ia_int_seq, ia_str_int, ia_str_bool, ia_str_list, ia_str_tuple, ia_str_str, ia_str_seq, ia_list_int, ia_list_bool, ia_list_list, ia_list_tuple, ia_list_str, ia_list_seq, ia_tuple_int, ia_tuple_bool, ia_tuple_list, ia_tuple_tuple, ia_tuple_str, ia_tuple_seq, mLst_ap, mTup_ap, mYes_ap, frz, frzAll, peek, res1, resAll, stoAll, argOf, argsOf, bors, wback, outAt, outsFrom, ownsStay, retv, wipeF, unwipe, sto, isNone, tyD, cY, cMul, cMod, cDiv, cPow, Cell.data, b2n, atI, ixN, fMulL, shaped_int, eqv_int, h2]
      | [i, j], h, h2, hs =>
        simp at hs h2
        simp [mVar_ap, mLit_ap, m2_ap, mB_ap, mAndT_ap, mOrT_ap, mNotT_ap, mAndV_ap, mOrV_ap, mNotV_ap, mIfE_ap, mNil_ap, mCons_ap, mDisp_ap, gSet_ap, gsNil_ap, gsCons_ap, gTupD_ap, mSet_ap, mAsg_ap, mPar_ap, mExpr_ap, mRet_ap, mRetN_ap, mNext_ap, mBreak_ap, mCont_ap, mSeq_ap, mIf_ap, iSeq_ap, iRan_ap, iZp_ap, mFor_ap, mWhile_ap, mCall_ap, mkD_ap, mLc_ap, fI_ap, fAdd_ap, fSub_ap, fMul_ap, fMod_ap, fDiv_ap, fPow_ap, fLt_ap, fLe_ap, fGt_ap, fGe_ap, fIsN_ap, fNotN_ap, fIsB_ap, fIx_ap, fAddX_ap, fSubX_ap, fMulX_ap, m1_ap, fNeg_ap, mB1_ap, fLen_ap, fAbs_ap, fInt_ap, fMin2_ap, fMax2_ap, fList_ap, fTuple_ap, fStr_ap, mMt_ap, mMtZ_ap, fAppend_ap, fInsert_ap, fPopAt_ap, oNone_ap, oSome_ap, mSl_ap, gIx_ap, mIsi_ap, fEqX_ap, fNeX_ap, fAll_ap, fAny_ap, fSum_ap, fSorted_ap, fBest_ap, fIdx_ap, fRepr_ap, mPermA_ap, fBack_ap, gSplice_ap, mSortSet_ap, fMulY_ap, mTupRan_ap, fIsX_ap, ia_none_int, ia_none_bool, ia_none_list, ia_none_tuple, ia_none_str, ia_none_seq, ia_bool_int, ia_bool_bool, ia_bool_list, ia_bool_tuple, ia_bool_str, ia_bool_seq, ia_int_int, ia_int_bool, ia_int_list, ia_int_tuple, ia_int_str, ia_int_seq, ia_str_int, ia_str_bool, ia_str_list, ia_str_tuple, ia_str_str, ia_str_seq, ia_list_int, ia_list_bool, ia_list_list, ia_list_tuple, ia_list_str, ia_list_seq, ia_tuple_int, ia_tuple_bool, ia_tuple_list, ia_tuple_tuple, ia_tuple_str, ia_tuple_seq, mLst_ap, mTup_ap, mYes_ap, frz, frzAll, peek, res1, resAll, stoAll, argOf, argsOf, bors, wback, outAt, outsFrom, ownsStay, retv, wipeF, unwipe, sto, isNone, tyD, cY, cMul, cMod, cDiv, cPow, Cell.data, b2n, atI, ixN, fMulL, shaped_int, eqv_int, rangeB, h2, hs]
      | i :: j :: k :: r, h, h2, hs =>
        have h6 : ¬ ((r.length : Int) + 1 + 1 + 1 = 2) := by omega
        simp at h2
        simp [mVar_ap, mLit_ap, m2_ap, mB_ap, mAndT_ap, mOrT_ap, mNotT_ap, mAndV_ap, mOrV_ap, mNotV_ap, mIfE_ap, mNil_ap, mCons_ap, mDisp_ap, gSet_ap, gsNil_ap, gsCons_ap, gTupD_ap, mSet_ap, mAsg_ap, mPar_ap, mExpr_ap, mRet_ap, mRetN_ap, mNext_ap, mBreak_ap, mCont_ap, mSeq_ap, mIf_ap, iSeq_ap, iRan_ap, iZp_ap, mFor_ap, mWhile_ap, mCall_ap, mkD_ap, mLc_ap, fI_ap, fAdd_ap, fSub_ap, fMul_ap, fMod_ap, fDiv_ap, fPow_ap, fLt_ap, fLe_ap, fGt_ap, fGe_ap, fIsN_ap, fNotN_ap, fIsB_ap, fIx_ap, fAddX_ap, fSubX_ap, fMulX_ap, m1_ap, fNeg_ap, mB1_ap, fLen_ap, fAbs_ap, fInt_ap, fMin2_ap, fMax2_ap, fList_ap, fTuple_ap, fStr_ap, mMt_ap, mMtZ_ap, fAppend_ap, fInsert_ap, fPopAt_ap, oNone_ap, oSome_ap, mSl_ap, gIx_ap, mIsi_ap, fEqX_ap, fNeX_ap, fAll_ap, fAny_ap, fSum_ap, fSorted_ap, fBest_ap, fIdx_ap, fRepr_ap, mPermA_ap, fBack_ap, gSplice_ap, mSortSet_ap, fMulY_ap, mTupRan_ap, fIsX_ap, ia_none_int, ia_none_bool, ia_none_list, ia_none_tuple, ia_none_str, ia_none_seq, ia_bool_int, ia_bool_bool, ia_bool_list, ia_bool_tuple, ia_bool_str, ia_bool_seq, ia_int_int, ia_int_bool, ia_int_list, ia_int_tuple, ia_int_str, ia_int_seq, ia_str_int, ia_str_bool, ia_str_list, ia_str_tuple, ia_str_str, ia_str_seq, ia_list_int, ia_list_bool, ia_list_list, ia_list_tuple, ia_list_str, ia_list_seq, ia_tuple_int, ia_tuple_bool, ia_tuple_list, ia_tuple_tuple, ia_tuple_str, ia_tuple_seq, mLst_ap, mTup_ap, mYes_ap, frz, frzAll, peek, res1, resAll, stoAll, argOf, argsOf, bors, wback, outAt, outsFrom, ownsStay, retv, wipeF, unwipe, sto, isNone, tyD, cY, cMul, cMod, cDiv, cPow, Cell.data, b2n, atI, ixN, fMulL, shaped_int, eqv_int, rangeB, h2, h6]
  · simp only [Bool.not_eq_true] at h
    rw [h] at h2
    have h7 : rangeB d = false := by
      match d, h with
      | .none, _ => rfl
      | .bool _, _ => rfl
      | .int _, _ => rfl
      | .str _, _ => rfl
      | .list _, _ => rfl
      | .dict _, _ => rfl
      | .tuple [], _ => rfl
      | .tuple [_], _ => simp [rangeB]
      | .tuple (_ :: _ :: _ :: _), _ => simp [rangeB]
      | .tuple [x, y], h =>
        cases x with
        | int a => cases y with
          | int b =>
            simp [onlyB, sizeB] at h
            simp only [rangeB]
            by_cases ha : 1 ≤ a
            · have := h ha; simp [ha]; intro; omega
            · simp [ha]
          | _ => simp [rangeB]
        | _ => simp [rangeB]
    rw [h7]
    simp [mVar_ap, mLit_ap, m2_ap, mB_ap, mAndT_ap, mOrT_ap, mNotT_ap, mAndV_ap, mOrV_ap, mNotV_ap, mIfE_ap, mNil_ap, mCons_ap, mDisp_ap, gSet_ap, gsNil_ap, gsCons_ap, gTupD_ap, mSet_ap, mAsg_ap, mPar_ap, mExpr_ap, mRet_ap, mRetN_ap, mNext_ap, mBreak_ap, mCont_ap, mSeq_ap, mIf_ap, iSeq_ap, iRan_ap, iZp_ap, mFor_ap, mWhile_ap, mCall_ap, mkD_ap, mLc_ap, fI_ap, fAdd_ap, fSub_ap, fMul_ap, fMod_ap, fDiv_ap, fPow_ap, fLt_ap, fLe_ap, fGt_ap, fGe_ap, fIsN_ap, fNotN_ap, fIsB_ap, fIx_ap, fAddX_ap, fSubX_ap, fMulX_ap, m1_ap, fNeg_ap, mB1_ap, fLen_ap, fAbs_ap, fInt_ap, fMin2_ap, fMax2_ap, fList_ap, fTuple_ap, fStr_ap, mMt_ap, mMtZ_ap, fAppend_ap, fInsert_ap, fPopAt_ap, oNone_ap, oSome_ap, mSl_ap, gIx_ap, mIsi_ap, fEqX_ap, fNeX_ap, fAll_ap, fAny_ap, fSum_ap, fSorted_ap, fBest_ap, fIdx_ap, fRepr_ap, mPermA_ap, fBack_ap, gSplice_ap, mSortSet_ap, fMulY_ap, mTupRan_ap, fIsX_ap, ia_none_int, ia_none_bool, ia_none_list, ia_none_tuple, ia_none_str, ia_none_seq, ia_bool_int, ia_bool_bool, ia_bool_list, ia_bool_tuple, ia_bool_str, ia_bool_seq, ia_int_int, ia_int_bool, ia_int_list, ia_int_tuple, ia_int_str, ia_int_seq, ia_str_int, ia_str_bool, ia_str_list, ia_str_tuple, ia_str_str, ia_str_seq, ia_list_int, ia_list_bool, ia_list_list, ia_list_tuple, ia_list_str, ia_list_seq, ia_tuple_int, ia_tuple_bool, ia_tuple_list, ia_tuple_tuple, ia_tuple_str, ia_tuple_seq, mLst_ap, mTup_ap, mYes_ap, frz, frzAll, peek, res1, resAll, stoAll, argOf, argsOf, bors, wback, outAt, outsFrom, ownsStay, retv, wipeF, unwipe, sto, isNone, tyD, cY, cMul, cMod, cDiv, cPow, Cell.data, b2n, atI, ixN, fMulL, h2]
theorem plant_ok {n : Nat} (hn : 3 ≤ n) {d : PyData} (hp : Pl 3 d) : D_is_plant n [.dat d] = some (.dat (.bool (shopB d)), [.dat d]) := by
  obtain ⟨n, rfl⟩ : ∃ m, n = m + 1 := ⟨n - 1, by omega⟩
  rw [e_is_plant]
  match d, hp with
  | .none, hp => simp [b_is_plant, mVar_ap, mLit_ap, m2_ap, mB_ap, mAndT_ap, mOrT_ap, mNotT_ap, mAndV_ap, mOrV_ap, mNotV_ap, mIfE_ap, mNil_ap, mCons_ap, mDisp_ap, gSet_ap, gsNil_ap, gsCons_ap, gTupD_ap, mSet_ap, mAsg_ap, mPar_ap, mExpr_ap, mRet_ap, mRetN_ap, mNext_ap, mBreak_ap, mCont_ap, mSeq_ap, mIf_ap, iSeq_ap, iRan_ap, iZp_ap, mFor_ap, mWhile_ap, mCall_ap, mkD_ap, mLc_ap, fI_ap, fAdd_ap, fSub_ap, fMul_ap, fMod_ap, fDiv_ap, fPow_ap, fLt_ap, fLe_ap, fGt_ap, fGe_ap, fIsN_ap, fNotN_ap, fIsB_ap, fIx_ap, fAddX_ap, fSubX_ap, fMulX_ap, m1_ap, fNeg_ap, mB1_ap, fLen_ap, fAbs_ap, fInt_ap, fMin2_ap, fMax2_ap, fList_ap, fTuple_ap, fStr_ap, mMt_ap, mMtZ_ap, fAppend_ap, fInsert_ap, fPopAt_ap, oNone_ap, oSome_ap, mSl_ap, gIx_ap, mIsi_ap, fEqX_ap, fNeX_ap, fAll_ap, fAny_ap, fSum_ap, fSorted_ap, fBest_ap, fIdx_ap, fRepr_ap, mPermA_ap, fBack_ap, gSplice_ap, mSortSet_ap, fMulY_ap, mTupRan_ap, fIsX_ap, ia_none_int, ia_none_bool, ia_none_list, ia_none_tuple, ia_none_str, ia_none_seq, ia_bool_int, ia_bool_bool, ia_bool_list, ia_bool_tuple, ia_bool_str, ia_bool_seq, ia_int_int, ia_int_bool, ia_int_list, ia_int_tuple, ia_int_str, ia_int_seq, ia_str_int, ia_str_bool, ia_str_list, ia_str_tuple, ia_str_str, ia_str_seq, ia_list_int, ia_list_bool, ia_list_list, ia_list_tuple, ia_list_str, ia_list_seq, ia_tuple_int, ia_tuple_bool, ia_tuple_list, ia_tuple_tuple, ia_tuple_str, ia_tuple_seq, mLst_ap, mTup_ap, mYes_ap, frz, frzAll, peek, res1, resAll, stoAll, argOf, argsOf, bors, wback, outAt, outsFrom, ownsStay, retv, wipeF, unwipe, sto, isNone, tyD, cY, cMul, cMod, cDiv, cPow, Cell.data, b2n, atI, ixN, fMulL, shopB]
  | .bool _, hp => simp [b_is_plant, mVar_ap, mLit_ap, m2_ap, mB_ap, mAndT_ap, mOrT_ap, mNotT_ap, mAndV_ap, mOrV_ap, mNotV_ap, mIfE_ap, mNil_ap, mCons_ap, mDisp_ap, gSet_ap, gsNil_ap, gsCons_ap, gTupD_ap, mSet_ap, mAsg_ap, mPar_ap, mExpr_ap, mRet_ap, mRetN_ap, mNext_ap, mBreak_ap, mCont_ap, mSeq_ap, mIf_ap, iSeq_ap, iRan_ap, iZp_ap, mFor_ap, mWhile_ap, mCall_ap, mkD_ap, mLc_ap, fI_ap, fAdd_ap, fSub_ap, fMul_ap, fMod_ap, fDiv_ap, fPow_ap, fLt_ap, fLe_ap, fGt_ap, fGe_ap, fIsN_ap, fNotN_ap, fIsB_ap, fIx_ap, fAddX_ap, fSubX_ap, fMulX_ap, m1_ap, fNeg_ap, mB1_ap, fLen_ap, fAbs_ap, fInt_ap, fMin2_ap, fMax2_ap, fList_ap, fTuple_ap, fStr_ap, mMt_ap, mMtZ_ap, fAppend_ap, fInsert_ap, fPopAt_ap, oNone_ap, oSome_ap, mSl_ap, gIx_ap, mIsi_ap, fEqX_ap, fNeX_ap, fAll_ap, fAny_ap, fSum_ap, fSorted_ap, fBest_ap, fIdx_ap, fRepr_ap, mPermA_ap, fBack_ap, gSplice_ap, mSortSet_ap, fMulY_ap, mTupRan_ap, fIsX_ap, ia_none_int, ia_none_bool, ia_none_list, ia_none_tuple, ia_none_str, ia_none_seq, ia_bool_int, ia_bool_bool, ia_bool_list, ia_bool_tuple, ia_bool_str, ia_bool_seq, ia_int_int, ia_int_bool, ia_int_list, ia_int_tuple, ia_int_str, ia_int_seq, ia_str_int, ia_str_bool, ia_str_list, ia_str_tuple, ia_str_str, ia_str_seq, ia_list_int, ia_list_bool, ia_list_list, ia_list_tuple, ia_list_str, ia_list_seq, ia_tuple_int, ia_tuple_bool, ia_tuple_list, ia_tuple_tuple, ia_tuple_str, ia_tuple_seq, mLst_ap, mTup_ap, mYes_ap, frz, frzAll, peek, res1, resAll, stoAll, argOf, argsOf, bors, wback, outAt, outsFrom, ownsStay, retv, wipeF, unwipe, sto, isNone, tyD, cY, cMul, cMod, cDiv, cPow, Cell.data, b2n, atI, ixN, fMulL, shopB]
  | .int _, hp => simp [b_is_plant, mVar_ap, mLit_ap, m2_ap, mB_ap, mAndT_ap, mOrT_ap, mNotT_ap, mAndV_ap, mOrV_ap, mNotV_ap, mIfE_ap, mNil_ap, mCons_ap, mDisp_ap, gSet_ap, gsNil_ap, gsCons_ap, gTupD_ap, mSet_ap, mAsg_ap, mPar_ap, mExpr_ap, mRet_ap, mRetN_ap, mNext_ap, mBreak_ap, mCont_ap, mSeq_ap, mIf_ap, iSeq_ap, iRan_ap, iZp_ap, mFor_ap, mWhile_ap, mCall_ap, mkD_ap, mLc_ap, fI_ap, fAdd_ap, fSub_ap, fMul_ap, fMod_ap, fDiv_ap, fPow_ap, fLt_ap, fLe_ap, fGt_ap, fGe_ap, fIsN_ap, fNotN_ap, fIsB_ap, fIx_ap, fAddX_ap, fSubX_ap, fMulX_ap, m1_ap, fNeg_ap, mB1_ap, fLen_ap, fAbs_ap, fInt_ap, fMin2_ap, fMax2_ap, fList_ap, fTuple_ap, fStr_ap, mMt_ap, mMtZ_ap, fAppend_ap, fInsert_ap, fPopAt_ap, oNone_ap, oSome_ap, mSl_ap, gIx_ap, mIsi_ap, fEqX_ap, fNeX_ap, fAll_ap, fAny_ap, fSum_ap, fSorted_ap, fBest_ap, fIdx_ap, fRepr_ap, mPermA_ap, fBack_ap, gSplice_ap, mSortSet_ap, fMulY_ap, mTupRan_ap, fIsX_ap, ia_none_int, ia_none_bool, ia_none_list, ia_none_tuple, ia_none_str, ia_none_seq, ia_bool_int, ia_bool_bool, ia_bool_list, ia_bool_tuple, ia_bool_str, ia_bool_seq, ia_int_int, ia_int_bool, ia_int_list, ia_int_tuple, ia_int_str, ia_int_seq, ia_str_int, ia_str_bool, ia_str_list, ia_str_tuple, ia_str_str, ia_str_seq, ia_list_int, ia_list_bool, ia_list_list, ia_list_tuple, ia_list_str, ia_list_seq, ia_tuple_int, ia_tuple_bool, ia_tuple_list, ia_tuple_tuple, ia_tuple_str, ia_tuple_seq, mLst_ap, mTup_ap, mYes_ap, frz, frzAll, peek, res1, resAll, stoAll, argOf, argsOf, bors, wback, outAt, outsFrom, ownsStay, retv, wipeF, unwipe, sto, isNone, tyD, cY, cMul, cMod, cDiv, cPow, Cell.data, b2n, atI, ixN, fMulL, shopB]
  | .str _, hp => simp [b_is_plant, mVar_ap, mLit_ap, m2_ap, mB_ap, mAndT_ap, mOrT_ap, mNotT_ap, mAndV_ap, mOrV_ap, mNotV_ap, mIfE_ap, mNil_ap, mCons_ap, mDisp_ap, gSet_ap, gsNil_ap, gsCons_ap, gTupD_ap, mSet_ap, mAsg_ap, mPar_ap, mExpr_ap, mRet_ap, mRetN_ap, mNext_ap, mBreak_ap, mCont_ap, mSeq_ap, mIf_ap, iSeq_ap, iRan_ap, iZp_ap, mFor_ap, mWhile_ap, mCall_ap, mkD_ap, mLc_ap, fI_ap, fAdd_ap, fSub_ap, fMul_ap, fMod_ap, fDiv_ap, fPow_ap, fLt_ap, fLe_ap, fGt_ap, fGe_ap, fIsN_ap, fNotN_ap, fIsB_ap, fIx_ap, fAddX_ap, fSubX_ap, fMulX_ap, m1_ap, fNeg_ap, mB1_ap, fLen_ap, fAbs_ap, fInt_ap, fMin2_ap, fMax2_ap, fList_ap, fTuple_ap, fStr_ap, mMt_ap, mMtZ_ap, fAppend_ap, fInsert_ap, fPopAt_ap, oNone_ap, oSome_ap, mSl_ap, gIx_ap, mIsi_ap, fEqX_ap, fNeX_ap, fAll_ap, fAny_ap, fSum_ap, fSorted_ap, fBest_ap, fIdx_ap, fRepr_ap, mPermA_ap, fBack_ap, gSplice_ap, mSortSet_ap, fMulY_ap, mTupRan_ap, fIsX_ap, ia_none_int, ia_none_bool, ia_none_list, ia_none_tuple, ia_none_str, ia_none_seq, ia_bool_int, ia_bool_bool, ia_bool_list, ia_bool_tuple, ia_bool_str, ia_bool_seq, ia_int_int, ia_int_bool, ia_int_list, ia_int_tuple, ia_int_str, ia_int_seq, ia_str_int, ia_str_bool, ia_str_list, ia_str_tuple, ia_str_str, ia_str_seq, ia_list_int, ia_list_bool, ia_list_list, ia_list_tuple, ia_list_str, ia_list_seq, ia_tuple_int, ia_tuple_bool, ia_tuple_list, ia_tuple_tuple, ia_tuple_str, ia_tuple_seq, mLst_ap, mTup_ap, mYes_ap, frz, frzAll, peek, res1, resAll, stoAll, argOf, argsOf, bors, wback, outAt, outsFrom, ownsStay, retv, wipeF, unwipe, sto, isNone, tyD, cY, cMul, cMod, cDiv, cPow, Cell.data, b2n, atI, ixN, fMulL, shopB]
  | .list _, hp => simp [b_is_plant, mVar_ap, mLit_ap, m2_ap, mB_ap, mAndT_ap, mOrT_ap, mNotT_ap, mAndV_ap, mOrV_ap, mNotV_ap, mIfE_ap, mNil_ap, mCons_ap, mDisp_ap, gSet_ap, gsNil_ap, gsCons_ap, gTupD_ap, mSet_ap, mAsg_ap, mPar_ap, mExpr_ap, mRet_ap, mRetN_ap, mNext_ap, mBreak_ap, mCont_ap, mSeq_ap, mIf_ap, iSeq_ap, iRan_ap, iZp_ap, mFor_ap, mWhile_ap, mCall_ap, mkD_ap, mLc_ap, fI_ap, fAdd_ap, fSub_ap, fMul_ap, fMod_ap, fDiv_ap, fPow_ap, fLt_ap, fLe_ap, fGt_ap, fGe_ap, fIsN_ap, fNotN_ap, fIsB_ap, fIx_ap, fAddX_ap, fSubX_ap, fMulX_ap, m1_ap, fNeg_ap, mB1_ap, fLen_ap, fAbs_ap, fInt_ap, fMin2_ap, fMax2_ap, fList_ap, fTuple_ap, fStr_ap, mMt_ap, mMtZ_ap, fAppend_ap, fInsert_ap, fPopAt_ap, oNone_ap, oSome_ap, mSl_ap, gIx_ap, mIsi_ap, fEqX_ap, fNeX_ap, fAll_ap, fAny_ap, fSum_ap, fSorted_ap, fBest_ap, fIdx_ap, fRepr_ap, mPermA_ap, fBack_ap, gSplice_ap, mSortSet_ap, fMulY_ap, mTupRan_ap, fIsX_ap, ia_none_int, ia_none_bool, ia_none_list, ia_none_tuple, ia_none_str, ia_none_seq, ia_bool_int, ia_bool_bool, ia_bool_list, ia_bool_tuple, ia_bool_str, ia_bool_seq, ia_int_int, ia_int_bool, ia_int_list, ia_int_tuple, ia_int_str, ia_int_seq, ia_str_int, ia_str_bool, ia_str_list, ia_str_tuple, ia_str_str, ia_str_seq, ia_list_int, ia_list_bool, ia_list_list, ia_list_tuple, ia_list_str, ia_list_seq, ia_tuple_int, ia_tuple_bool, ia_tuple_list, ia_tuple_tuple, ia_tuple_str, ia_tuple_seq, mLst_ap, mTup_ap, mYes_ap, frz, frzAll, peek, res1, resAll, stoAll, argOf, argsOf, bors, wback, outAt, outsFrom, ownsStay, retv, wipeF, unwipe, sto, isNone, tyD, cY, cMul, cMod, cDiv, cPow, Cell.data, b2n, atI, ixN, fMulL, shopB]
  | .tuple [], hp => simp [b_is_plant, mVar_ap, mLit_ap, m2_ap, mB_ap, mAndT_ap, mOrT_ap, mNotT_ap, mAndV_ap, mOrV_ap, mNotV_ap, mIfE_ap, mNil_ap, mCons_ap, mDisp_ap, gSet_ap, gsNil_ap, gsCons_ap, gTupD_ap, mSet_ap, mAsg_ap, mPar_ap, mExpr_ap, mRet_ap, mRetN_ap, mNext_ap, mBreak_ap, mCont_ap, mSeq_ap, mIf_ap, iSeq_ap, iRan_ap, iZp_ap, mFor_ap, mWhile_ap, mCall_ap, mkD_ap, mLc_ap, fI_ap, fAdd_ap, fSub_ap, fMul_ap, fMod_ap, fDiv_ap, fPow_ap, fLt_ap, fLe_ap, fGt_ap, fGe_ap, fIsN_ap, fNotN_ap, fIsB_ap, fIx_ap, fAddX_ap, fSubX_ap, fMulX_ap, m1_ap, fNeg_ap, mB1_ap, fLen_ap, fAbs_ap, fInt_ap, fMin2_ap, fMax2_ap, fList_ap, fTuple_ap, fStr_ap, mMt_ap, mMtZ_ap, fAppend_ap, fInsert_ap, fPopAt_ap, oNone_ap, oSome_ap, mSl_ap, gIx_ap, mIsi_ap, fEqX_ap, fNeX_ap, fAll_ap, fAny_ap, fSum_ap, fSorted_ap, fBest_ap, fIdx_ap, fRepr_ap, mPermA_ap, fBack_ap, gSplice_ap, mSortSet_ap, fMulY_ap, mTupRan_ap, fIsX_ap, ia_none_int, ia_none_bool, ia_none_list, ia_none_tuple, ia_none_str, ia_none_seq, ia_bool_int, ia_bool_bool, ia_bool_list, ia_bool_tuple, ia_bool_str, ia_bool_seq, ia_int_int, ia_int_bool, ia_int_list, ia_int_tuple, ia_int_str, ia_int_seq, ia_str_int, ia_str_bool, ia_str_list, ia_str_tuple, ia_str_str, ia_str_seq, ia_list_int, ia_list_bool, ia_list_list, ia_list_tuple, ia_list_str, ia_list_seq, ia_tuple_int, ia_tuple_bool, ia_tuple_list, ia_tuple_tuple, ia_tuple_str, ia_tuple_seq, mLst_ap, mTup_ap, mYes_ap, frz, frzAll, peek, res1, resAll, stoAll, argOf, argsOf, bors, wback, outAt, outsFrom, ownsStay, retv, wipeF, unwipe, sto, isNone, tyD, cY, cMul, cMod, cDiv, cPow, Cell.data, b2n, atI, ixN, fMulL, shopB, shaped_int, eqv_int]
  | .tuple [_], hp => simp [b_is_plant, mVar_ap, mLit_ap, m2_ap, mB_ap, mAndT_ap, mOrT_ap, mNotT_ap, mAndV_ap, mOrV_ap, mNotV_ap, mIfE_ap, mNil_ap, mCons_ap, mDisp_ap, gSet_ap, gsNil_ap, gsCons_ap, gTupD_ap, mSet_ap, mAsg_ap, mPar_ap, mExpr_ap, mRet_ap, mRetN_ap, mNext_ap, mBreak_ap, mCont_ap, mSeq_ap, mIf_ap, iSeq_ap, iRan_ap, iZp_ap, mFor_ap, mWhile_ap, mCall_ap, mkD_ap, mLc_ap, fI_ap, fAdd_ap, fSub_ap, fMul_ap, fMod_ap, fDiv_ap, fPow_ap, fLt_ap, fLe_ap, fGt_ap, fGe_ap, fIsN_ap, fNotN_ap, fIsB_ap, fIx_ap, fAddX_ap, fSubX_ap, fMulX_ap, m1_ap, fNeg_ap, mB1_ap, fLen_ap, fAbs_ap, fInt_ap, fMin2_ap, fMax2_ap, fList_ap, fTuple_ap, fStr_ap, mMt_ap, mMtZ_ap, fAppend_ap, fInsert_ap, fPopAt_ap, oNone_ap, oSome_ap, mSl_ap, gIx_ap, mIsi_ap, fEqX_ap, fNeX_ap, fAll_ap, fAny_ap, fSum_ap, fSorted_ap, fBest_ap, fIdx_ap, fRepr_ap, mPermA_ap, fBack_ap, gSplice_ap, mSortSet_ap, fMulY_ap, mTupRan_ap, fIsX_ap, ia_none_int, ia_none_bool, ia_none_list, ia_none_tuple, ia_none_str, ia_none_seq, ia_bool_int, ia_bool_bool, ia_bool_list, ia_bool_tuple, ia_bool_str, ia_bool_seq, ia_int_int, ia_int_bool, ia_int_list, ia_int_tuple, ia_int_str, ia_int_seq, ia_str_int, ia_str_bool, ia_str_list, ia_str_tuple, ia_str_str, ia_str_seq, ia_list_int, ia_list_bool, ia_list_list, ia_list_tuple, ia_list_str, ia_list_seq, ia_tuple_int, ia_tuple_bool, ia_tuple_list, ia_tuple_tuple, ia_tuple_str, ia_tuple_seq, mLst_ap, mTup_ap, mYes_ap, frz, frzAll, peek, res1, resAll, stoAll, argOf, argsOf, bors, wback, outAt, outsFrom, ownsStay, retv, wipeF, unwipe, sto, isNone, tyD, cY, cMul, cMod, cDiv, cPow, Cell.data, b2n, atI, ixN, fMulL, shopB, shaped_int, eqv_int]
  | .tuple (_ :: _ :: _ :: r), hp =>
    have h6 : ¬ ((r.length : Int) + 1 + 1 + 1 = 2) := by omega
    simp [b_is_plant, mVar_ap, mLit_ap, m2_ap, mB_ap, mAndT_ap, mOrT_ap, mNotT_ap, mAndV_ap, mOrV_ap, mNotV_ap, mIfE_ap, mNil_ap, mCons_ap, mDisp_ap, gSet_ap, gsNil_ap, gsCons_ap, gTupD_ap, mSet_ap, mAsg_ap, mPar_ap, mExpr_ap, mRet_ap, mRetN_ap, mNext_ap, mBreak_ap, mCont_ap, mSeq_ap, mIf_ap, iSeq_ap, iRan_ap, iZp_ap, mFor_ap, mWhile_ap, mCall_ap, mkD_ap, mLc_ap, fI_ap, fAdd_ap, fSub_ap, fMul_ap, fMod_ap, fDiv_ap, fPow_ap, fLt_ap, fLe_ap, fGt_ap, fGe_ap, fIsN_ap, fNotN_ap, fIsB_ap, fIx_ap, fAddX_ap, fSubX_ap, fMulX_ap, m1_ap, fNeg_ap, mB1_ap, fLen_ap, fAbs_ap, fInt_ap, fMin2_ap, fMax2_ap, fList_ap, fTuple_ap, fStr_ap, mMt_ap, mMtZ_ap, fAppend_ap, fInsert_ap, fPopAt_ap, oNone_ap, oSome_ap, mSl_ap, gIx_ap, mIsi_ap, fEqX_ap, fNeX_ap, fAll_ap, fAny_ap, fSum_ap, fSorted_ap, fBest_ap, fIdx_ap, fRepr_ap, mPermA_ap, fBack_ap, gSplice_ap, mSortSet_ap, fMulY_ap, mTupRan_ap, fIsX_ap, ia_none_int, ia_none_bool, ia_none_list, ia_none_tuple, ia_none_str, ia_none_seq, ia_bool_int, ia_bool_bool, ia_bool_list, ia_bool_tuple, ia_bool_str, ia_bool_seq, ia_int_int, ia_int_bool, ia_int_list, ia_int_tuple, ia_int_str, ia_int_seq, ia_str_int, ia_str_bool, ia_str_list, ia_str_tuple, ia_str_str, ia_str_seq, ia_list_int, ia_list_bool, ia_list_list, ia_list_tuple, ia_list_str, ia_list_seq, ia_tuple_int, ia_tuple_bool, ia_tuple_list, ia_tuple_tuple, ia_tuple_str, ia_tuple_seq, mLst_ap, mTup_ap, mYes_ap, frz, frzAll, peek, res1, resAll, stoAll, argOf, argsOf, bors, wback, outAt, outsFrom, ownsStay, retv, wipeF, unwipe, sto, isNone, tyD, cY, cMul, cMod, cDiv, cPow, Cell.data, b2n, atI, ixN, fMulL, shopB, shaped_int, eqv_int, h6]
  | .dict _, hp => have := hp.p; simp [plainD] at this
  | .tuple [x, y], hp =>
    have hx := (hp.2 _ rfl).2 x (by simp)
    have hy := (hp.2 _ rfl).2 y (by simp)
    have hx1 : Pl 1 x := ⟨hx.1, fun ds e => ⟨(hx.2 ds e).1, fun x m => ((hx.2 ds e).2 x m).1⟩⟩
    have h2 := only_ok (n := n) (by omega) hx1
    by_cases h : onlyB x = true
    case neg =>
      simp only [Bool.not_eq_true] at h
      rw [h] at h2
      have h7 : sizesB x = false := by
        cases x <;> simp only [sizesB, onlyB] at h ⊢
        rw [h]; rfl
      simp [b_is_plant, mVar_ap, mLit_ap, m2_ap, mB_ap, mAndT_ap, mOrT_ap, mNotT_ap, mAndV_ap, mOrV_ap, mNotV_ap, mIfE_ap, mNil_ap, mCons_ap, mDisp_ap, gSet_ap, gsNil_ap, gsCons_ap, gTupD_ap, mSet_ap, mAsg_ap, mPar_ap, mExpr_ap, mRet_ap, mRetN_ap, mNext_ap, mBreak_ap, mCont_ap, mSeq_ap, mIf_ap, iSeq_ap, iRan_ap, iZp_ap, mFor_ap, mWhile_ap, mCall_ap, mkD_ap, mLc_ap, fI_ap, fAdd_ap, fSub_ap, fMul_ap, fMod_ap, fDiv_ap, fPow_ap, fLt_ap, fLe_ap, fGt_ap, fGe_ap, fIsN_ap, fNotN_ap, fIsB_ap, fIx_ap, fAddX_ap, fSubX_ap, fMulX_ap, m1_ap, fNeg_ap, mB1_ap, fLen_ap, fAbs_ap, fInt_ap, fMin2_ap, fMax2_ap, fList_ap, fTuple_ap, fStr_ap, mMt_ap, mMtZ_ap, fAppend_ap, fInsert_ap, fPopAt_ap, oNone_ap, oSome_ap, mSl_ap, gIx_ap, mIsi_ap, fEqX_ap, fNeX_ap, fAll_ap, fAny_ap, fSum_ap, fSorted_ap, fBest_ap, fIdx_ap, fRepr_ap, mPermA_ap, fBack_ap, gSplice_ap, mSortSet_ap, fMulY_ap, mTupRan_ap, fIsX_ap, ia_none_int, ia_none_bool, ia_none_list, ia_none_tuple, ia_none_str, ia_none_seq, ia_bool_int, ia_bool_bool, ia_bool_list, ia_bool_tuple, ia_bool_str, ia_bool_seq, ia_int_int, ia_int_bool, ia_int_list, ia_int_tuple, ia_int_str, ia_int_seq, ia_str_int, ia_str_bool, ia_str_list, ia_str_tuple, ia_str_str, ia_str_seq, ia_list_int, ia_list_bool, ia_list_list, ia_list_tuple, ia_list_str, ia_list_seq, ia_tuple_int, ia_tuple_bool, ia_tuple_list, ia_tuple_tuple, ia_tuple_str, ia_tuple_seq, mLst_ap, mTup_ap, mYes_ap, frz, frzAll, peek, res1, resAll, stoAll, argOf, argsOf, bors, wback, outAt, outsFrom, ownsStay, retv, wipeF, unwipe, sto, isNone, tyD, cY, cMul, cMod, cDiv, cPow, Cell.data, b2n, atI, ixN, fMulL, shopB, shaped_int, eqv_int, h2, h7]
    case pos =>
      match x, h, h2, hx with
      | .tuple ds, h, h2, hx =>
      have h0 := h
      simp only [onlyB, Bool.and_eq_true] at h
      obtain ⟨ns, rfl, hs⟩ := ints_of_sizes h.2
      rw [h0] at h2
      have h64 : ns.length < 64 := by have := (hx.2 _ rfl).1; simp at this; omega
      have h7 : sizesB (.tuple (ns.map .int)) = asc ns := by
        simp only [sizesB, h.1, h.2, ascB, intsD_map]; simp
      have h8 := shaped_ints ns
      have h9 := shaped_ints (sortU ns)
      have h10 := eqvAll_ints ns (sortU ns)
      rw [sortU_iff] at h10
      have h11 : PyData.eqv (.list (ns.map .int)) (.list ((sortU ns).map .int)) = asc ns := by simp only [PyData.eqv, h10]
      have h12 := intsD_map ns
      revert h2 h7 h8 h9 h11 h12
      generalize hq : List.map PyData.int ns = qs
      generalize hr : List.map PyData.int (sortU ns) = rs
      intro h2 h7 h8 h9 h11 h12
      have hys := hy.s
      cases ha : asc ns with
      | false =>
        rw [ha] at h7 h11
        simp [b_is_plant, mVar_ap, mLit_ap, m2_ap, mB_ap, mAndT_ap, mOrT_ap, mNotT_ap, mAndV_ap, mOrV_ap, mNotV_ap, mIfE_ap, mNil_ap, mCons_ap, mDisp_ap, gSet_ap, gsNil_ap, gsCons_ap, gTupD_ap, mSet_ap, mAsg_ap, mPar_ap, mExpr_ap, mRet_ap, mRetN_ap, mNext_ap, mBreak_ap, mCont_ap, mSeq_ap, mIf_ap, iSeq_ap, iRan_ap, iZp_ap, mFor_ap, mWhile_ap, mCall_ap, mkD_ap, mLc_ap, fI_ap, fAdd_ap, fSub_ap, fMul_ap, fMod_ap, fDiv_ap, fPow_ap, fLt_ap, fLe_ap, fGt_ap, fGe_ap, fIsN_ap, fNotN_ap, fIsB_ap, fIx_ap, fAddX_ap, fSubX_ap, fMulX_ap, m1_ap, fNeg_ap, mB1_ap, fLen_ap, fAbs_ap, fInt_ap, fMin2_ap, fMax2_ap, fList_ap, fTuple_ap, fStr_ap, mMt_ap, mMtZ_ap, fAppend_ap, fInsert_ap, fPopAt_ap, oNone_ap, oSome_ap, mSl_ap, gIx_ap, mIsi_ap, fEqX_ap, fNeX_ap, fAll_ap, fAny_ap, fSum_ap, fSorted_ap, fBest_ap, fIdx_ap, fRepr_ap, mPermA_ap, fBack_ap, gSplice_ap, mSortSet_ap, fMulY_ap, mTupRan_ap, fIsX_ap, ia_none_int, ia_none_bool, ia_none_list, ia_none_tuple, ia_none_str, ia_none_seq, ia_bool_int, ia_bool_bool, ia_bool_list, ia_bool_tuple, ia_bool_str, ia_bool_seq, ia_int_int, ia_int_bool, ia_int_list, ia_int_tuple, ia_int_str, ia_int_seq, ia_str_int, ia_str_bool, ia_str_list, ia_str_tuple, ia_str_str, ia_str_seq, ia_list_int, ia_list_bool, ia_list_list, ia_list_tuple, ia_list_str, ia_list_seq, ia_tuple_int, ia_tuple_bool, ia_tuple_list, ia_tuple_tuple, ia_tuple_str, ia_tuple_seq, mLst_ap, mTup_ap, mYes_ap, frz, frzAll, peek, res1, resAll, stoAll, argOf, argsOf, bors, wback, outAt, outsFrom, ownsStay, retv, wipeF, unwipe, sto, isNone, tyD, cY, cMul, cMod, cDiv, cPow, Cell.data, b2n, atI, ixN, fMulL, shopB, shaped_int, eqv_int, h2, h7, h8, h9, h11, h12, hr, h64]
      | true =>
        rw [ha] at h7 h11
        match y, hy, hys with
        | .none, _, hys => simp [b_is_plant, mVar_ap, mLit_ap, m2_ap, mB_ap, mAndT_ap, mOrT_ap, mNotT_ap, mAndV_ap, mOrV_ap, mNotV_ap, mIfE_ap, mNil_ap, mCons_ap, mDisp_ap, gSet_ap, gsNil_ap, gsCons_ap, gTupD_ap, mSet_ap, mAsg_ap, mPar_ap, mExpr_ap, mRet_ap, mRetN_ap, mNext_ap, mBreak_ap, mCont_ap, mSeq_ap, mIf_ap, iSeq_ap, iRan_ap, iZp_ap, mFor_ap, mWhile_ap, mCall_ap, mkD_ap, mLc_ap, fI_ap, fAdd_ap, fSub_ap, fMul_ap, fMod_ap, fDiv_ap, fPow_ap, fLt_ap, fLe_ap, fGt_ap, fGe_ap, fIsN_ap, fNotN_ap, fIsB_ap, fIx_ap, fAddX_ap, fSubX_ap, fMulX_ap, m1_ap, fNeg_ap, mB1_ap, fLen_ap, fAbs_ap, fInt_ap, fMin2_ap, fMax2_ap, fList_ap, fTuple_ap, fStr_ap, mMt_ap, mMtZ_ap, fAppend_ap, fInsert_ap, fPopAt_ap, oNone_ap, oSome_ap, mSl_ap, gIx_ap, mIsi_ap, fEqX_ap, fNeX_ap, fAll_ap, fAny_ap, fSum_ap, fSorted_ap, fBest_ap, fIdx_ap, fRepr_ap, mPermA_ap, fBack_ap, gSplice_ap, mSortSet_ap, fMulY_ap, mTupRan_ap, fIsX_ap, ia_none_int, ia_none_bool, ia_none_list, ia_none_tuple, ia_none_str, ia_none_seq, ia_bool_int, ia_bool_bool, ia_bool_list, ia_bool_tuple, ia_bool_str, ia_bool_seq, ia_int_int, ia_int_bool, ia_int_list, ia_int_tuple, ia_int_str, ia_int_seq, ia_str_int, ia_str_bool, ia_str_list, ia_str_tuple, ia_str_str, ia_str_seq, ia_list_int, ia_list_bool, ia_list_list, ia_list_tuple, ia_list_str, ia_list_seq, ia_tuple_int, ia_tuple_bool, ia_tuple_list, ia_tuple_tuple, ia_tuple_str, ia_tuple_seq, mLst_ap, mTup_ap, mYes_ap, frz, frzAll, peek, res1, resAll, stoAll, argOf, argsOf, bors, wback, outAt, outsFrom, ownsStay, retv, wipeF, unwipe, sto, isNone, tyD, cY, cMul, cMod, cDiv, cPow, Cell.data, b2n, atI, ixN, fMulL, shopB, shaped_int, eqv_int, h2, h7, h8, h9, h11, h12, hr, h64, rangesB]
        | .bool _, _, hys => simp [b_is_plant, mVar_ap, mLit_ap, m2_ap, mB_ap, mAndT_ap, mOrT_ap, mNotT_ap, mAndV_ap, mOrV_ap, mNotV_ap, mIfE_ap, mNil_ap, mCons_ap, mDisp_ap, gSet_ap, gsNil_ap, gsCons_ap, gTupD_ap, mSet_ap, mAsg_ap, mPar_ap, mExpr_ap, mRet_ap, mRetN_ap, mNext_ap, mBreak_ap, mCont_ap, mSeq_ap, mIf_ap, iSeq_ap, iRan_ap, iZp_ap, mFor_ap, mWhile_ap, mCall_ap, mkD_ap, mLc_ap, fI_ap, fAdd_ap, fSub_ap, fMul_ap, fMod_ap, fDiv_ap, fPow_ap, fLt_ap, fLe_ap, fGt_ap, fGe_ap, fIsN_ap, fNotN_ap, fIsB_ap, fIx_ap, fAddX_ap, fSubX_ap, fMulX_ap, m1_ap, fNeg_ap, mB1_ap, fLen_ap, fAbs_ap, fInt_ap, fMin2_ap, fMax2_ap, fList_ap, fTuple_ap, fStr_ap, mMt_ap, mMtZ_ap, fAppend_ap, fInsert_ap, fPopAt_ap, oNone_ap, oSome_ap, mSl_ap, gIx_ap, mIsi_ap, fEqX_ap, fNeX_ap, fAll_ap, fAny_ap, fSum_ap, fSorted_ap, fBest_ap, fIdx_ap, fRepr_ap, mPermA_ap, fBack_ap, gSplice_ap, mSortSet_ap, fMulY_ap, mTupRan_ap, fIsX_ap, ia_none_int, ia_none_bool, ia_none_list, ia_none_tuple, ia_none_str, ia_none_seq, ia_bool_int, ia_bool_bool, ia_bool_list, ia_bool_tuple, ia_bool_str, ia_bool_seq, ia_int_int, ia_int_bool, ia_int_list, ia_int_tuple, ia_int_str, ia_int_seq, ia_str_int, ia_str_bool, ia_str_list, ia_str_tuple, ia_str_str, ia_str_seq, ia_list_int, ia_list_bool, ia_list_list, ia_list_tuple, ia_list_str, ia_list_seq, ia_tuple_int, ia_tuple_bool, ia_tuple_list, ia_tuple_tuple, ia_tuple_str, ia_tuple_seq, mLst_ap, mTup_ap, mYes_ap, frz, frzAll, peek, res1, resAll, stoAll, argOf, argsOf, bors, wback, outAt, outsFrom, ownsStay, retv, wipeF, unwipe, sto, isNone, tyD, cY, cMul, cMod, cDiv, cPow, Cell.data, b2n, atI, ixN, fMulL, shopB, shaped_int, eqv_int, h2, h7, h8, h9, h11, h12, hr, h64, rangesB]
        | .int _, _, hys => simp [b_is_plant, mVar_ap, mLit_ap, m2_ap, mB_ap, mAndT_ap, mOrT_ap, mNotT_ap, mAndV_ap, mOrV_ap, mNotV_ap, mIfE_ap, mNil_ap, mCons_ap, mDisp_ap, gSet_ap, gsNil_ap, gsCons_ap, gTupD_ap, mSet_ap, mAsg_ap, mPar_ap, mExpr_ap, mRet_ap, mRetN_ap, mNext_ap, mBreak_ap, mCont_ap, mSeq_ap, mIf_ap, iSeq_ap, iRan_ap, iZp_ap, mFor_ap, mWhile_ap, mCall_ap, mkD_ap, mLc_ap, fI_ap, fAdd_ap, fSub_ap, fMul_ap, fMod_ap, fDiv_ap, fPow_ap, fLt_ap, fLe_ap, fGt_ap, fGe_ap, fIsN_ap, fNotN_ap, fIsB_ap, fIx_ap, fAddX_ap, fSubX_ap, fMulX_ap, m1_ap, fNeg_ap, mB1_ap, fLen_ap, fAbs_ap, fInt_ap, fMin2_ap, fMax2_ap, fList_ap, fTuple_ap, fStr_ap, mMt_ap, mMtZ_ap, fAppend_ap, fInsert_ap, fPopAt_ap, oNone_ap, oSome_ap, mSl_ap, gIx_ap, mIsi_ap, fEqX_ap, fNeX_ap, fAll_ap, fAny_ap, fSum_ap, fSorted_ap, fBest_ap, fIdx_ap, fRepr_ap, mPermA_ap, fBack_ap, gSplice_ap, mSortSet_ap, fMulY_ap, mTupRan_ap, fIsX_ap, ia_none_int, ia_none_bool, ia_none_list, ia_none_tuple, ia_none_str, ia_none_seq, ia_bool_int, ia_bool_bool, ia_bool_list, ia_bool_tuple, ia_bool_str, ia_bool_seq, ia_int_int, ia_int_bool, ia_int_list, ia_int_tuple, ia_int_str, ia_int_seq, ia_str_int, ia_str_bool, ia_str_list, ia_str_tuple, ia_str_str, ia_str_seq, ia_list_int, ia_list_bool, ia_list_list, ia_list_tuple, ia_list_str, ia_list_seq, ia_tuple_int, ia_tuple_bool, ia_tuple_list, ia_tuple_tuple, ia_tuple_str, ia_tuple_seq, mLst_ap, mTup_ap, mYes_ap, frz, frzAll, peek, res1, resAll, stoAll, argOf, argsOf, bors, wback, outAt, outsFrom, ownsStay, retv, wipeF, unwipe, sto, isNone, tyD, cY, cMul, cMod, cDiv, cPow, Cell.data, b2n, atI, ixN, fMulL, shopB, shaped_int, eqv_int, h2, h7, h8, h9, h11, h12, hr, h64, rangesB]
        | .str _, _, hys => simp [b_is_plant, mVar_ap, mLit_ap, m2_ap, mB_ap, mAndT_ap, mOrT_ap, mNotT_ap, mAndV_ap, mOrV_ap, mNotV_ap, mIfE_ap, mNil_ap, mCons_ap, mDisp_ap, gSet_ap, gsNil_ap, gsCons_ap, gTupD_ap, mSet_ap, mAsg_ap, mPar_ap, mExpr_ap, mRet_ap, mRetN_ap, mNext_ap, mBreak_ap, mCont_ap, mSeq_ap, mIf_ap, iSeq_ap, iRan_ap, iZp_ap, mFor_ap, mWhile_ap, mCall_ap, mkD_ap, mLc_ap, fI_ap, fAdd_ap, fSub_ap, fMul_ap, fMod_ap, fDiv_ap, fPow_ap, fLt_ap, fLe_ap, fGt_ap, fGe_ap, fIsN_ap, fNotN_ap, fIsB_ap, fIx_ap, fAddX_ap, fSubX_ap, fMulX_ap, m1_ap, fNeg_ap, mB1_ap, fLen_ap, fAbs_ap, fInt_ap, fMin2_ap, fMax2_ap, fList_ap, fTuple_ap, fStr_ap, mMt_ap, mMtZ_ap, fAppend_ap, fInsert_ap, fPopAt_ap, oNone_ap, oSome_ap, mSl_ap, gIx_ap, mIsi_ap, fEqX_ap, fNeX_ap, fAll_ap, fAny_ap, fSum_ap, fSorted_ap, fBest_ap, fIdx_ap, fRepr_ap, mPermA_ap, fBack_ap, gSplice_ap, mSortSet_ap, fMulY_ap, mTupRan_ap, fIsX_ap, ia_none_int, ia_none_bool, ia_none_list, ia_none_tuple, ia_none_str, ia_none_seq, ia_bool_int, ia_bool_bool, ia_bool_list, ia_bool_tuple, ia_bool_str, ia_bool_seq, ia_int_int, ia_int_bool, ia_int_list, ia_int_tuple, ia_int_str, ia_int_seq, ia_str_int, ia_str_bool, ia_str_list, ia_str_tuple, ia_str_str, ia_str_seq, ia_list_int, ia_list_bool, ia_list_list, ia_list_tuple, ia_list_str, ia_list_seq, ia_tuple_int, ia_tuple_bool, ia_tuple_list, ia_tuple_tuple, ia_tuple_str, ia_tuple_seq, mLst_ap, mTup_ap, mYes_ap, frz, frzAll, peek, res1, resAll, stoAll, argOf, argsOf, bors, wback, outAt, outsFrom, ownsStay, retv, wipeF, unwipe, sto, isNone, tyD, cY, cMul, cMod, cDiv, cPow, Cell.data, b2n, atI, ixN, fMulL, shopB, shaped_int, eqv_int, h2, h7, h8, h9, h11, h12, hr, h64, rangesB]
        | .list _, _, hys => simp [b_is_plant, mVar_ap, mLit_ap, m2_ap, mB_ap, mAndT_ap, mOrT_ap, mNotT_ap, mAndV_ap, mOrV_ap, mNotV_ap, mIfE_ap, mNil_ap, mCons_ap, mDisp_ap, gSet_ap, gsNil_ap, gsCons_ap, gTupD_ap, mSet_ap, mAsg_ap, mPar_ap, mExpr_ap, mRet_ap, mRetN_ap, mNext_ap, mBreak_ap, mCont_ap, mSeq_ap, mIf_ap, iSeq_ap, iRan_ap, iZp_ap, mFor_ap, mWhile_ap, mCall_ap, mkD_ap, mLc_ap, fI_ap, fAdd_ap, fSub_ap, fMul_ap, fMod_ap, fDiv_ap, fPow_ap, fLt_ap, fLe_ap, fGt_ap, fGe_ap, fIsN_ap, fNotN_ap, fIsB_ap, fIx_ap, fAddX_ap, fSubX_ap, fMulX_ap, m1_ap, fNeg_ap, mB1_ap, fLen_ap, fAbs_ap, fInt_ap, fMin2_ap, fMax2_ap, fList_ap, fTuple_ap, fStr_ap, mMt_ap, mMtZ_ap, fAppend_ap, fInsert_ap, fPopAt_ap, oNone_ap, oSome_ap, mSl_ap, gIx_ap, mIsi_ap, fEqX_ap, fNeX_ap, fAll_ap, fAny_ap, fSum_ap, fSorted_ap, fBest_ap, fIdx_ap, fRepr_ap, mPermA_ap, fBack_ap, gSplice_ap, mSortSet_ap, fMulY_ap, mTupRan_ap, fIsX_ap, ia_none_int, ia_none_bool, ia_none_list, ia_none_tuple, ia_none_str, ia_none_seq, ia_bool_int, ia_bool_bool, ia_bool_list, ia_bool_tuple, ia_bool_str, ia_bool_seq, ia_int_int, ia_int_bool, ia_int_list, ia_int_tuple, ia_int_str, ia_int_seq, ia_str_int, ia_str_bool, ia_str_list, ia_str_tuple, ia_str_str, ia_str_seq, ia_list_int, ia_list_bool, ia_list_list, ia_list_tuple, ia_list_str, ia_list_seq, ia_tuple_int, ia_tuple_bool, ia_tuple_list, ia_tuple_tuple, ia_tuple_str, ia_tuple_seq, mLst_ap, mTup_ap, mYes_ap, frz, frzAll, peek, res1, resAll, stoAll, argOf, argsOf, bors, wback, outAt, outsFrom, ownsStay, retv, wipeF, unwipe, sto, isNone, tyD, cY, cMul, cMod, cDiv, cPow, Cell.data, b2n, atI, ixN, fMulL, shopB, shaped_int, eqv_int, h2, h7, h8, h9, h11, h12, hr, h64, rangesB]
        | .dict _, hy, _ => have := hy.p; simp [plainD] at this
        | .tuple [], _, hys => simp [b_is_plant, mVar_ap, mLit_ap, m2_ap, mB_ap, mAndT_ap, mOrT_ap, mNotT_ap, mAndV_ap, mOrV_ap, mNotV_ap, mIfE_ap, mNil_ap, mCons_ap, mDisp_ap, gSet_ap, gsNil_ap, gsCons_ap, gTupD_ap, mSet_ap, mAsg_ap, mPar_ap, mExpr_ap, mRet_ap, mRetN_ap, mNext_ap, mBreak_ap, mCont_ap, mSeq_ap, mIf_ap, iSeq_ap, iRan_ap, iZp_ap, mFor_ap, mWhile_ap, mCall_ap, mkD_ap, mLc_ap, fI_ap, fAdd_ap, fSub_ap, fMul_ap, fMod_ap, fDiv_ap, fPow_ap, fLt_ap, fLe_ap, fGt_ap, fGe_ap, fIsN_ap, fNotN_ap, fIsB_ap, fIx_ap, fAddX_ap, fSubX_ap, fMulX_ap, m1_ap, fNeg_ap, mB1_ap, fLen_ap, fAbs_ap, fInt_ap, fMin2_ap, fMax2_ap, fList_ap, fTuple_ap, fStr_ap, mMt_ap, mMtZ_ap, fAppend_ap, fInsert_ap, fPopAt_ap, oNone_ap, oSome_ap, mSl_ap, gIx_ap, mIsi_ap, fEqX_ap, fNeX_ap, fAll_ap, fAny_ap, fSum_ap, fSorted_ap, fBest_ap, fIdx_ap, fRepr_ap, mPermA_ap, fBack_ap, gSplice_ap, mSortSet_ap, fMulY_ap, mTupRan_ap, fIsX_ap, ia_none_int, ia_none_bool, ia_none_list, ia_none_tuple, ia_none_str, ia_none_seq, ia_bool_int, ia_bool_bool, ia_bool_list, ia_bool_tuple, ia_bool_str, ia_bool_seq, ia_int_int, ia_int_bool, ia_int_list, ia_int_tuple, ia_int_str, ia_int_seq, ia_str_int, ia_str_bool, ia_str_list, ia_str_tuple, ia_str_str, ia_str_seq, ia_list_int, ia_list_bool, ia_list_list, ia_list_tuple, ia_list_str, ia_list_seq, ia_tuple_int, ia_tuple_bool, ia_tuple_list, ia_tuple_tuple, ia_tuple_str, ia_tuple_seq, mLst_ap, mTup_ap, mYes_ap, frz, frzAll, peek, res1, resAll, stoAll, argOf, argsOf, bors, wback, outAt, outsFrom, ownsStay, retv, wipeF, unwipe, sto, isNone, tyD, cY, cMul, cMod, cDiv, cPow, Cell.data, b2n, atI, ixN, fMulL, shopB, shaped_int, eqv_int, h2, h7, h8, h9, h11, h12, hr, h64, rangesB, shaped_nil, eqv_nil]
        | .tuple (e :: es), hy, hys =>
          obtain ⟨hl, hz⟩ := hy.2 _ rfl
          have hc := compM_map (g := gSet 1) (me := mAndV (mCall (D_sizes_only n) (mCons (mVar 1) mNil)) (mAndV (m2 fEqX (mB1 fLen (mCons (mVar 1) mNil)) (mLit (.int 2))) (m2 fLe (m2 fIx (mVar 1) (mLit (.int 0))) (m2 fIx (mVar 1) (mLit (.int 1)))))) (vs := [1]) (fun d => PyData.bool (rangeB d)) [some (.dat (.tuple [.tuple qs, .tuple (e :: es)])), none] (e :: es) [] (fun d m =>
            ⟨[some (.dat (.tuple [.tuple qs, .tuple (e :: es)])), some (.dat d)], .dat (.bool (rangeB d)), [some (.dat (.tuple [.tuple qs, .tuple (e :: es)])), some (.dat d)], [some (.dat (.tuple [.tuple qs, .tuple (e :: es)])), some (.dat d)], rfl, part_ok (by omega) (hz d m), rfl, by simp [wipeF]⟩) (by
            rw [sizeLine_v]; simp at hl ⊢; omega)
          have hb := boolsD_all rangeB (e :: es)
          have hall := all_map rangeB (e :: es)
          have h13 : rangesB (.tuple (e :: es)) = (e :: es).all rangeB := by simp only [rangesB]; simp
          simp only [shopB, h7, h13, Bool.true_and]
          simp only [b_is_plant]
          simp [mVar_ap, mLit_ap, m2_ap, mB_ap, mAndT_ap, mOrT_ap, mNotT_ap, mAndV_ap, mOrV_ap, mNotV_ap, mIfE_ap, mNil_ap, mCons_ap, mDisp_ap, gSet_ap, gsNil_ap, gsCons_ap, gTupD_ap, mSet_ap, mAsg_ap, mPar_ap, mExpr_ap, mRet_ap, mRetN_ap, mNext_ap, mBreak_ap, mCont_ap, mSeq_ap, mIf_ap, iSeq_ap, iRan_ap, iZp_ap, mFor_ap, mWhile_ap, mCall_ap, mkD_ap, mLc_ap, fI_ap, fAdd_ap, fSub_ap, fMul_ap, fMod_ap, fDiv_ap, fPow_ap, fLt_ap, fLe_ap, fGt_ap, fGe_ap, fIsN_ap, fNotN_ap, fIsB_ap, fIx_ap, fAddX_ap, fSubX_ap, fMulX_ap, m1_ap, fNeg_ap, mB1_ap, fLen_ap, fAbs_ap, fInt_ap, fMin2_ap, fMax2_ap, fList_ap, fTuple_ap, fStr_ap, mMt_ap, mMtZ_ap, fAppend_ap, fInsert_ap, fPopAt_ap, oNone_ap, oSome_ap, mSl_ap, gIx_ap, mIsi_ap, fEqX_ap, fNeX_ap, fAll_ap, fAny_ap, fSum_ap, fSorted_ap, fBest_ap, fIdx_ap, fRepr_ap, mPermA_ap, fBack_ap, gSplice_ap, mSortSet_ap, fMulY_ap, mTupRan_ap, fIsX_ap, ia_none_int, ia_none_bool, ia_none_list, ia_none_tuple, ia_none_str, ia_none_seq, ia_bool_int, ia_bool_bool, ia_bool_list, ia_bool_tuple, ia_bool_str, ia_bool_seq, ia_int_int, ia_int_bool, ia_int_list, ia_int_tuple, ia_int_str, ia_int_seq, ia_str_int, ia_str_bool, ia_str_list, ia_str_tuple, ia_str_str, ia_str_seq, ia_list_int, ia_list_bool, ia_list_list, ia_list_tuple, ia_list_str, ia_list_seq, ia_tuple_int, ia_tuple_bool, ia_tuple_list, ia_tuple_tuple, ia_tuple_str, ia_tuple_seq, mLst_ap, mTup_ap, mYes_ap, frz, frzAll, peek, res1, resAll, stoAll, argOf, argsOf, bors, wback, outAt, outsFrom, ownsStay, retv, wipeF, unwipe, sto, isNone, tyD, cY, cMul, cMod, cDiv, cPow, Cell.data, b2n, atI, ixN, fMulL, shaped_int, eqv_int, h2, h8, h9, h11, h12, hr, h64, hys, shaped_nil, eqv_nil]
          simp only [List.nil_append] at hc
          rw [hc]
          simp only [mVar_ap, mLit_ap, m2_ap, mB_ap, mAndT_ap, mOrT_ap, mNotT_ap, mAndV_ap, mOrV_ap, mNotV_ap, mIfE_ap, mNil_ap, mCons_ap, mDisp_ap, gSet_ap, gsNil_ap, gsCons_ap, gTupD_ap, mSet_ap, mAsg_ap, mPar_ap, mExpr_ap, mRet_ap, mRetN_ap, mNext_ap, mBreak_ap, mCont_ap, mSeq_ap, mIf_ap, iSeq_ap, iRan_ap, iZp_ap, mFor_ap, mWhile_ap, mCall_ap, mkD_ap, mLc_ap, fI_ap, fAdd_ap, fSub_ap, fMul_ap, fMod_ap, fDiv_ap, fPow_ap, fLt_ap, fLe_ap, fGt_ap, fGe_ap, fIsN_ap, fNotN_ap, fIsB_ap, fIx_ap, fAddX_ap, fSubX_ap, fMulX_ap, m1_ap, fNeg_ap, mB1_ap, fLen_ap, fAbs_ap, fInt_ap, fMin2_ap, fMax2_ap, fList_ap, fTuple_ap, fStr_ap, mMt_ap, mMtZ_ap, fAppend_ap, fInsert_ap, fPopAt_ap, oNone_ap, oSome_ap, mSl_ap, gIx_ap, mIsi_ap, fEqX_ap, fNeX_ap, fAll_ap, fAny_ap, fSum_ap, fSorted_ap, fBest_ap, fIdx_ap, fRepr_ap, mPermA_ap, fBack_ap, gSplice_ap, mSortSet_ap, fMulY_ap, mTupRan_ap, fIsX_ap, ia_none_int, ia_none_bool, ia_none_list, ia_none_tuple, ia_none_str, ia_none_seq, ia_bool_int, ia_bool_bool, ia_bool_list, ia_bool_tuple, ia_bool_str, ia_bool_seq, ia_int_int, ia_int_bool, ia_int_list, ia_int_tuple, ia_int_str, ia_int_seq, ia_str_int, ia_str_bool, ia_str_list, ia_str_tuple, ia_str_str, ia_str_seq, ia_list_int, ia_list_bool, ia_list_list, ia_list_tuple, ia_list_str, ia_list_seq, ia_tuple_int, ia_tuple_bool, ia_tuple_list, ia_tuple_tuple, ia_tuple_str, ia_tuple_seq, mLst_ap, mTup_ap, mYes_ap, frz, frzAll, peek, res1, resAll, stoAll, argOf, argsOf, bors, wback, outAt, outsFrom, ownsStay, retv, wipeF, unwipe, sto, isNone, tyD, cY, cMul, cMod, cDiv, cPow, Cell.data, b2n, atI, ixN, fMulL, hb, hall]
          simp [mVar_ap, mLit_ap, m2_ap, mB_ap, mAndT_ap, mOrT_ap, mNotT_ap, mAndV_ap, mOrV_ap, mNotV_ap, mIfE_ap, mNil_ap, mCons_ap, mDisp_ap, gSet_ap, gsNil_ap, gsCons_ap, gTupD_ap, mSet_ap, mAsg_ap, mPar_ap, mExpr_ap, mRet_ap, mRetN_ap, mNext_ap, mBreak_ap, mCont_ap, mSeq_ap, mIf_ap, iSeq_ap, iRan_ap, iZp_ap, mFor_ap, mWhile_ap, mCall_ap, mkD_ap, mLc_ap, fI_ap, fAdd_ap, fSub_ap, fMul_ap, fMod_ap, fDiv_ap, fPow_ap, fLt_ap, fLe_ap, fGt_ap, fGe_ap, fIsN_ap, fNotN_ap, fIsB_ap, fIx_ap, fAddX_ap, fSubX_ap, fMulX_ap, m1_ap, fNeg_ap, mB1_ap, fLen_ap, fAbs_ap, fInt_ap, fMin2_ap, fMax2_ap, fList_ap, fTuple_ap, fStr_ap, mMt_ap, mMtZ_ap, fAppend_ap, fInsert_ap, fPopAt_ap, oNone_ap, oSome_ap, mSl_ap, gIx_ap, mIsi_ap, fEqX_ap, fNeX_ap, fAll_ap, fAny_ap, fSum_ap, fSorted_ap, fBest_ap, fIdx_ap, fRepr_ap, mPermA_ap, fBack_ap, gSplice_ap, mSortSet_ap, fMulY_ap, mTupRan_ap, fIsX_ap, ia_none_int, ia_none_bool, ia_none_list, ia_none_tuple, ia_none_str, ia_none_seq, ia_bool_int, ia_bool_bool, ia_bool_list, ia_bool_tuple, ia_bool_str, ia_bool_seq, ia_int_int, ia_int_bool, ia_int_list, ia_int_tuple, ia_int_str, ia_int_seq, ia_str_int, ia_str_bool, ia_str_list, ia_str_tuple, ia_str_str, ia_str_seq, ia_list_int, ia_list_bool, ia_list_list, ia_list_tuple, ia_list_str, ia_list_seq, ia_tuple_int, ia_tuple_bool, ia_tuple_list, ia_tuple_tuple, ia_tuple_str, ia_tuple_seq, mLst_ap, mTup_ap, mYes_ap, frz, frzAll, peek, res1, resAll, stoAll, argOf, argsOf, bors, wback, outAt, outsFrom, ownsStay, retv, wipeF, unwipe, sto, isNone, tyD, cY, cMul, cMod, cDiv, cPow, Cell.data, b2n, atI, ixN, fMulL]
end Lk01

namespace Lk01
open PySem PySem.Spec PyProof.Rows L2 Rf
/-! the box of draws -/
def bxS (a b c : Int) : S0 := .own (.lst [.int a, .int b, .int c])
def Bx (C : Int) (s : S0) : Prop := ∃ a b c, s = bxS a b c ∧ 0 ≤ a ∧ 0 ≤ b ∧ b < 2147483563 ∧ 0 ≤ c ∧ c ≤ C
theorem Bx.mono {C C' : Int} {s : S0} (h : Bx C s) (e : C ≤ C') : Bx C' s := by
  obtain ⟨a, b, c, h1, h2, h3, h4, h5, h6⟩ := h; exact ⟨a, b, c, h1, h2, h3, h4, h5, by omega⟩
theorem take_at {n : Nat} {a b c k : Int} (hc : c ≤ 1000000000) (h2 : 0 ≤ a) (h3 : 0 ≤ b) (h4 : b < 2147483563) (h5 : 0 ≤ c) (hk : 0 < k) (hk2 : k ≤ 10000000) :
    ∃ r a' c', 0 ≤ r ∧ r < k ∧ 0 ≤ a' ∧ 0 ≤ c' ∧ c' ≤ c + 1 ∧ D_take (n + 1) [bxS a b c, .dat (.int k)] = some (.dat (.int r), [bxS a' b c', .dat (.int k)]) := by
  rw [e_take]
  by_cases h : 0 < a
  · refine ⟨a % k, a / k, c, Int.emod_nonneg _ (by omega), Int.emod_lt_of_pos _ (by omega), Int.ediv_nonneg h2 (by omega), h5, by omega, ?_⟩
    have h7 : k < 1073741824 := by omega
    simp [b_take, mVar_ap, mLit_ap, m2_ap, mB_ap, mAndT_ap, mOrT_ap, mNotT_ap, mAndV_ap, mOrV_ap, mNotV_ap, mIfE_ap, mNil_ap, mCons_ap, mDisp_ap, gSet_ap, gsNil_ap, gsCons_ap, gTupD_ap, mSet_ap, mAsg_ap, mPar_ap, mExpr_ap, mRet_ap, mRetN_ap, mNext_ap, mBreak_ap, mCont_ap, mSeq_ap, mIf_ap, iSeq_ap, iRan_ap, iZp_ap, mFor_ap, mWhile_ap, mCall_ap, mkD_ap, mLc_ap, fI_ap, fAdd_ap, fSub_ap, fMul_ap, fMod_ap, fDiv_ap, fPow_ap, fLt_ap, fLe_ap, fGt_ap, fGe_ap, fIsN_ap, fNotN_ap, fIsB_ap, fIx_ap, fAddX_ap, fSubX_ap, fMulX_ap, m1_ap, fNeg_ap, mB1_ap, fLen_ap, fAbs_ap, fInt_ap, fMin2_ap, fMax2_ap, fList_ap, fTuple_ap, fStr_ap, mMt_ap, mMtZ_ap, fAppend_ap, fInsert_ap, fPopAt_ap, oNone_ap, oSome_ap, mSl_ap, gIx_ap, mIsi_ap, fEqX_ap, fNeX_ap, fAll_ap, fAny_ap, fSum_ap, fSorted_ap, fBest_ap, fIdx_ap, fRepr_ap, mPermA_ap, fBack_ap, gSplice_ap, mSortSet_ap, fMulY_ap, mTupRan_ap, fIsX_ap, ia_none_int, ia_none_bool, ia_none_list, ia_none_tuple, ia_none_str, ia_none_seq, ia_bool_int, ia_bool_bool, ia_bool_list, ia_bool_tuple, ia_bool_str, ia_bool_seq, ia_int_int, ia_int_bool, ia_int_list, ia_int_tuple, ia_int_str, ia_int_seq, ia_str_int, ia_str_bool, ia_str_list, ia_str_tuple, ia_str_str, ia_str_seq, ia_list_int, ia_list_bool, ia_list_list, ia_list_tuple, ia_list_str, ia_list_seq, ia_tuple_int, ia_tuple_bool, ia_tuple_list, ia_tuple_tuple, ia_tuple_str, ia_tuple_seq, mLst_ap, mTup_ap, mYes_ap, frz, frzAll, peek, res1, resAll, stoAll, argOf, argsOf, bors, wback, outAt, outsFrom, ownsStay, retv, wipeF, unwipe, sto, isNone, tyD, cY, cMul, cMod, cDiv, cPow, Cell.data, b2n, atI, ixN, fMulL, bxS, h, hk, h7]
  · obtain rfl : a = 0 := by omega
    have h8 : ¬ (10000000 < k) := by omega
    have hp : (b + 51749 * (c + 1)).natAbs < 18446744073709551616 := by omega
    obtain ⟨X, hX⟩ : ∃ X, X = (b + 51749 * (c + 1)) ^ 3 % 2147483587 := ⟨_, rfl⟩
    have x1 : 0 ≤ X := by rw [hX]; exact Int.emod_nonneg _ (by decide)
    have x2 : X < 2147483587 := by rw [hX]; exact Int.emod_lt_of_pos _ (by decide)
    refine ⟨(X * (X % 30013 + 11) + (c + 1) * 6427) % 2147483647 / 32 % k, 0, c + 1, Int.emod_nonneg _ (by omega), Int.emod_lt_of_pos _ (by omega), by omega, by omega, by omega, ?_⟩
    have y1 : -18446744073709551616 < X := by omega
    have y2 : X < 18446744073709551616 := by omega
    simp [b_take, mVar_ap, mLit_ap, m2_ap, mB_ap, mAndT_ap, mOrT_ap, mNotT_ap, mAndV_ap, mOrV_ap, mNotV_ap, mIfE_ap, mNil_ap, mCons_ap, mDisp_ap, gSet_ap, gsNil_ap, gsCons_ap, gTupD_ap, mSet_ap, mAsg_ap, mPar_ap, mExpr_ap, mRet_ap, mRetN_ap, mNext_ap, mBreak_ap, mCont_ap, mSeq_ap, mIf_ap, iSeq_ap, iRan_ap, iZp_ap, mFor_ap, mWhile_ap, mCall_ap, mkD_ap, mLc_ap, fI_ap, fAdd_ap, fSub_ap, fMul_ap, fMod_ap, fDiv_ap, fPow_ap, fLt_ap, fLe_ap, fGt_ap, fGe_ap, fIsN_ap, fNotN_ap, fIsB_ap, fIx_ap, fAddX_ap, fSubX_ap, fMulX_ap, m1_ap, fNeg_ap, mB1_ap, fLen_ap, fAbs_ap, fInt_ap, fMin2_ap, fMax2_ap, fList_ap, fTuple_ap, fStr_ap, mMt_ap, mMtZ_ap, fAppend_ap, fInsert_ap, fPopAt_ap, oNone_ap, oSome_ap, mSl_ap, gIx_ap, mIsi_ap, fEqX_ap, fNeX_ap, fAll_ap, fAny_ap, fSum_ap, fSorted_ap, fBest_ap, fIdx_ap, fRepr_ap, mPermA_ap, fBack_ap, gSplice_ap, mSortSet_ap, fMulY_ap, mTupRan_ap, fIsX_ap, ia_none_int, ia_none_bool, ia_none_list, ia_none_tuple, ia_none_str, ia_none_seq, ia_bool_int, ia_bool_bool, ia_bool_list, ia_bool_tuple, ia_bool_str, ia_bool_seq, ia_int_int, ia_int_bool, ia_int_list, ia_int_tuple, ia_int_str, ia_int_seq, ia_str_int, ia_str_bool, ia_str_list, ia_str_tuple, ia_str_str, ia_str_seq, ia_list_int, ia_list_bool, ia_list_list, ia_list_tuple, ia_list_str, ia_list_seq, ia_tuple_int, ia_tuple_bool, ia_tuple_list, ia_tuple_tuple, ia_tuple_str, ia_tuple_seq, mLst_ap, mTup_ap, mYes_ap, frz, frzAll, peek, res1, resAll, stoAll, argOf, argsOf, bors, wback, outAt, outsFrom, ownsStay, retv, wipeF, unwipe, sto, isNone, tyD, cY, cMul, cMod, cDiv, cPow, Cell.data, b2n, atI, ixN, fMulL, bxS, h8, hp, ← hX, y1, y2, hk]
theorem take_ok {n : Nat} (hn : 1 ≤ n) {C k : Int} {s : S0} (hs : Bx C s) (hC : C ≤ 1000000000) (hk : 0 < k) (hk2 : k ≤ 10000000) :
    ∃ r s', 0 ≤ r ∧ r < k ∧ Bx (C + 1) s' ∧ D_take n [s, .dat (.int k)] = some (.dat (.int r), [s', .dat (.int k)]) := by
  obtain ⟨n, rfl⟩ : ∃ m, n = m + 1 := ⟨n - 1, by omega⟩
  obtain ⟨a, b, c, rfl, h2, h3, h4, h5, h6⟩ := hs
  obtain ⟨r, a', c', e1, e2, e3, e4, e5, e6⟩ := take_at (n := n) (a := a) (b := b) (c := c) (k := k) (by omega) h2 h3 h4 h5 hk hk2
  exact ⟨r, _, e1, e2, ⟨a', b, c', rfl, e3, h3, h4, e4, by omega⟩, e6⟩
theorem Bx.own {C : Int} {s : S0} (h : Bx C s) : ∃ xs, s = .own (.lst xs) := by
  obtain ⟨a, b, c, rfl, _⟩ := h; exact ⟨_, rfl⟩
theorem atI_mem {ds : List PyData} {r : Int} (h0 : 0 ≤ r) (h1 : r < ds.length) : ∃ x, x ∈ ds ∧ atI ds r = some x := by
  have : r.toNat < ds.length := by omega
  refine ⟨ds[r.toNat], List.getElem_mem this, ?_⟩
  simp [atI, ixN, h0, h1, this]
/-- one of some things -/
theorem pick_ok {n : Nat} (hn : 2 ≤ n) {C : Int} {s t : S0} {ds : List PyData} (ht : t = .own (.lst ds) ∨ t = .dat (.list ds)) (hs : Bx C s) (hC : C ≤ 1000000000) (h0 : 0 < ds.length) (h1 : ds.length ≤ 1000) :
    ∃ x s', x ∈ ds ∧ Bx (C + 1) s' ∧ D_pick n [s, t] = some (.dat x, [s', t]) := by
  obtain ⟨n, rfl⟩ : ∃ m, n = m + 1 := ⟨n - 1, by omega⟩
  obtain ⟨r, s', e1, e2, e3, e4⟩ := take_ok (n := n) (by omega) hs hC (k := ds.length) (by omega) (by omega)
  obtain ⟨x, m, e5⟩ := atI_mem e1 e2
  obtain ⟨xs, rfl⟩ := hs.own
  obtain ⟨ys, rfl⟩ := e3.own
  refine ⟨x, _, m, e3, ?_⟩
  rw [e_pick]
  rcases ht with rfl | rfl
  · simp [b_pick, mVar_ap, mLit_ap, m2_ap, mB_ap, mAndT_ap, mOrT_ap, mNotT_ap, mAndV_ap, mOrV_ap, mNotV_ap, mIfE_ap, mNil_ap, mCons_ap, mDisp_ap, gSet_ap, gsNil_ap, gsCons_ap, gTupD_ap, mSet_ap, mAsg_ap, mPar_ap, mExpr_ap, mRet_ap, mRetN_ap, mNext_ap, mBreak_ap, mCont_ap, mSeq_ap, mIf_ap, iSeq_ap, iRan_ap, iZp_ap, mFor_ap, mWhile_ap, mCall_ap, mkD_ap, mLc_ap, fI_ap, fAdd_ap, fSub_ap, fMul_ap, fMod_ap, fDiv_ap, fPow_ap, fLt_ap, fLe_ap, fGt_ap, fGe_ap, fIsN_ap, fNotN_ap, fIsB_ap, fIx_ap, fAddX_ap, fSubX_ap, fMulX_ap, m1_ap, fNeg_ap, mB1_ap, fLen_ap, fAbs_ap, fInt_ap, fMin2_ap, fMax2_ap, fList_ap, fTuple_ap, fStr_ap, mMt_ap, mMtZ_ap, fAppend_ap, fInsert_ap, fPopAt_ap, oNone_ap, oSome_ap, mSl_ap, gIx_ap, mIsi_ap, fEqX_ap, fNeX_ap, fAll_ap, fAny_ap, fSum_ap, fSorted_ap, fBest_ap, fIdx_ap, fRepr_ap, mPermA_ap, fBack_ap, gSplice_ap, mSortSet_ap, fMulY_ap, mTupRan_ap, fIsX_ap, ia_none_int, ia_none_bool, ia_none_list, ia_none_tuple, ia_none_str, ia_none_seq, ia_bool_int, ia_bool_bool, ia_bool_list, ia_bool_tuple, ia_bool_str, ia_bool_seq, ia_int_int, ia_int_bool, ia_int_list, ia_int_tuple, ia_int_str, ia_int_seq, ia_str_int, ia_str_bool, ia_str_list, ia_str_tuple, ia_str_str, ia_str_seq, ia_list_int, ia_list_bool, ia_list_list, ia_list_tuple, ia_list_str, ia_list_seq, ia_tuple_int, ia_tuple_bool, ia_tuple_list, ia_tuple_tuple, ia_tuple_str, ia_tuple_seq, mLst_ap, mTup_ap, mYes_ap, frz, frzAll, peek, res1, resAll, stoAll, argOf, argsOf, bors, wback, outAt, outsFrom, ownsStay, retv, wipeF, unwipe, sto, isNone, tyD, cY, cMul, cMod, cDiv, cPow, Cell.data, b2n, fMulL, e4, e5]
  · simp [b_pick, mVar_ap, mLit_ap, m2_ap, mB_ap, mAndT_ap, mOrT_ap, mNotT_ap, mAndV_ap, mOrV_ap, mNotV_ap, mIfE_ap, mNil_ap, mCons_ap, mDisp_ap, gSet_ap, gsNil_ap, gsCons_ap, gTupD_ap, mSet_ap, mAsg_ap, mPar_ap, mExpr_ap, mRet_ap, mRetN_ap, mNext_ap, mBreak_ap, mCont_ap, mSeq_ap, mIf_ap, iSeq_ap, iRan_ap, iZp_ap, mFor_ap, mWhile_ap, mCall_ap, mkD_ap, mLc_ap, fI_ap, fAdd_ap, fSub_ap, fMul_ap, fMod_ap, fDiv_ap, fPow_ap, fLt_ap, fLe_ap, fGt_ap, fGe_ap, fIsN_ap, fNotN_ap, fIsB_ap, fIx_ap, fAddX_ap, fSubX_ap, fMulX_ap, m1_ap, fNeg_ap, mB1_ap, fLen_ap, fAbs_ap, fInt_ap, fMin2_ap, fMax2_ap, fList_ap, fTuple_ap, fStr_ap, mMt_ap, mMtZ_ap, fAppend_ap, fInsert_ap, fPopAt_ap, oNone_ap, oSome_ap, mSl_ap, gIx_ap, mIsi_ap, fEqX_ap, fNeX_ap, fAll_ap, fAny_ap, fSum_ap, fSorted_ap, fBest_ap, fIdx_ap, fRepr_ap, mPermA_ap, fBack_ap, gSplice_ap, mSortSet_ap, fMulY_ap, mTupRan_ap, fIsX_ap, ia_none_int, ia_none_bool, ia_none_list, ia_none_tuple, ia_none_str, ia_none_seq, ia_bool_int, ia_bool_bool, ia_bool_list, ia_bool_tuple, ia_bool_str, ia_bool_seq, ia_int_int, ia_int_bool, ia_int_list, ia_int_tuple, ia_int_str, ia_int_seq, ia_str_int, ia_str_bool, ia_str_list, ia_str_tuple, ia_str_str, ia_str_seq, ia_list_int, ia_list_bool, ia_list_list, ia_list_tuple, ia_list_str, ia_list_seq, ia_tuple_int, ia_tuple_bool, ia_tuple_list, ia_tuple_tuple, ia_tuple_str, ia_tuple_seq, mLst_ap, mTup_ap, mYes_ap, frz, frzAll, peek, res1, resAll, stoAll, argOf, argsOf, bors, wback, outAt, outsFrom, ownsStay, retv, wipeF, unwipe, sto, isNone, tyD, cY, cMul, cMod, cDiv, cPow, Cell.data, b2n, fMulL, e4, e5]
theorem box_ok {n : Nat} (hn : 1 ≤ n) {ns : List Int} {k : Int} (h0 : 0 ≤ k) (hk : k ≤ 3) (hl : ns.length ≤ 63) : ∃ s', Bx 0 s' ∧ (∃ c, s' = .own c ∧ D_box n [.dat (scr ns), .dat (.int k)] = some (.fre c, [.dat (scr ns), .dat (.int k)])) := by
  obtain ⟨n, rfl⟩ : ∃ m, n = m + 1 := ⟨n - 1, by omega⟩
  rw [e_box]
  have key : ∀ x : Int, ∃ c, Bx 0 (.own c) ∧ mRet (mLst (mCons (m2 fMulY (mB1 fAbs (mCons (mVar 2) mNil)) (mB1 fInt (mCons (m2 fGe (mB1 fAbs (mCons (mVar 2) mNil)) (m2 fPow (mLit (.int 10)) (mLit (.int 18)))) mNil))) (mCons (m2 fMod (m2 fMulY (m2 fAddX (m2 fAddX (m2 fMod (mVar 2) (mLit (.int 2147483629))) (m2 fMulY (mLit (.int 15511)) (mVar 1))) (mLit (.int 23))) (mLit (.int 40361))) (mLit (.int 2147483563))) (mCons (mLit (.int 0)) mNil)))) [some (.dat (scr ns)), some (.dat (.int k)), some (.dat (.int x))] = some (.rt (.fre c), [some (.dat (scr ns)), some (.dat (.int k)), some (.dat (.int x))]) := by
    intro x
    refine ⟨.lst [.int ((if x < 0 then -x else x) * (if 1000000000000000000 ≤ (if x < 0 then -x else x) then 1 else 0)), .int ((x % 2147483629 + 15511 * k + 23) * 40361 % 2147483563), .int 0], ⟨_, _, _, rfl, ?_, Int.emod_nonneg _ (by decide), Int.emod_lt_of_pos _ (by decide), by decide, by decide⟩, ?_⟩
    · refine Int.mul_nonneg ?_ ?_
      · split <;> omega
      · split <;> omega
    · by_cases h18 : 1000000000000000000 ≤ (if x < 0 then -x else x)
      · simp [mVar_ap, mLit_ap, m2_ap, mB_ap, mAndT_ap, mOrT_ap, mNotT_ap, mAndV_ap, mOrV_ap, mNotV_ap, mIfE_ap, mNil_ap, mCons_ap, mDisp_ap, gSet_ap, gsNil_ap, gsCons_ap, gTupD_ap, mSet_ap, mAsg_ap, mPar_ap, mExpr_ap, mRet_ap, mRetN_ap, mNext_ap, mBreak_ap, mCont_ap, mSeq_ap, mIf_ap, iSeq_ap, iRan_ap, iZp_ap, mFor_ap, mWhile_ap, mCall_ap, mkD_ap, mLc_ap, fI_ap, fAdd_ap, fSub_ap, fMul_ap, fMod_ap, fDiv_ap, fPow_ap, fLt_ap, fLe_ap, fGt_ap, fGe_ap, fIsN_ap, fNotN_ap, fIsB_ap, fIx_ap, fAddX_ap, fSubX_ap, fMulX_ap, m1_ap, fNeg_ap, mB1_ap, fLen_ap, fAbs_ap, fInt_ap, fMin2_ap, fMax2_ap, fList_ap, fTuple_ap, fStr_ap, mMt_ap, mMtZ_ap, fAppend_ap, fInsert_ap, fPopAt_ap, oNone_ap, oSome_ap, mSl_ap, gIx_ap, mIsi_ap, fEqX_ap, fNeX_ap, fAll_ap, fAny_ap, fSum_ap, fSorted_ap, fBest_ap, fIdx_ap, fRepr_ap, mPermA_ap, fBack_ap, gSplice_ap, mSortSet_ap, fMulY_ap, mTupRan_ap, fIsX_ap, ia_none_int, ia_none_bool, ia_none_list, ia_none_tuple, ia_none_str, ia_none_seq, ia_bool_int, ia_bool_bool, ia_bool_list, ia_bool_tuple, ia_bool_str, ia_bool_seq, ia_int_int, ia_int_bool, ia_int_list, ia_int_tuple, ia_int_str, ia_int_seq, ia_str_int, ia_str_bool, ia_str_list, ia_str_tuple, ia_str_str, ia_str_seq, ia_list_int, ia_list_bool, ia_list_list, ia_list_tuple, ia_list_str, ia_list_seq, ia_tuple_int, ia_tuple_bool, ia_tuple_list, ia_tuple_tuple, ia_tuple_str, ia_tuple_seq, mLst_ap, mTup_ap, mYes_ap, frz, frzAll, peek, res1, resAll, stoAll, argOf, argsOf, bors, wback, outAt, outsFrom, ownsStay, retv, wipeF, unwipe, sto, isNone, tyD, cY, cMul, cMod, cDiv, cPow, Cell.data, b2n, atI, ixN, fMulL, h18, sizeLine_v]
      · simp [mVar_ap, mLit_ap, m2_ap, mB_ap, mAndT_ap, mOrT_ap, mNotT_ap, mAndV_ap, mOrV_ap, mNotV_ap, mIfE_ap, mNil_ap, mCons_ap, mDisp_ap, gSet_ap, gsNil_ap, gsCons_ap, gTupD_ap, mSet_ap, mAsg_ap, mPar_ap, mExpr_ap, mRet_ap, mRetN_ap, mNext_ap, mBreak_ap, mCont_ap, mSeq_ap, mIf_ap, iSeq_ap, iRan_ap, iZp_ap, mFor_ap, mWhile_ap, mCall_ap, mkD_ap, mLc_ap, fI_ap, fAdd_ap, fSub_ap, fMul_ap, fMod_ap, fDiv_ap, fPow_ap, fLt_ap, fLe_ap, fGt_ap, fGe_ap, fIsN_ap, fNotN_ap, fIsB_ap, fIx_ap, fAddX_ap, fSubX_ap, fMulX_ap, m1_ap, fNeg_ap, mB1_ap, fLen_ap, fAbs_ap, fInt_ap, fMin2_ap, fMax2_ap, fList_ap, fTuple_ap, fStr_ap, mMt_ap, mMtZ_ap, fAppend_ap, fInsert_ap, fPopAt_ap, oNone_ap, oSome_ap, mSl_ap, gIx_ap, mIsi_ap, fEqX_ap, fNeX_ap, fAll_ap, fAny_ap, fSum_ap, fSorted_ap, fBest_ap, fIdx_ap, fRepr_ap, mPermA_ap, fBack_ap, gSplice_ap, mSortSet_ap, fMulY_ap, mTupRan_ap, fIsX_ap, ia_none_int, ia_none_bool, ia_none_list, ia_none_tuple, ia_none_str, ia_none_seq, ia_bool_int, ia_bool_bool, ia_bool_list, ia_bool_tuple, ia_bool_str, ia_bool_seq, ia_int_int, ia_int_bool, ia_int_list, ia_int_tuple, ia_int_str, ia_int_seq, ia_str_int, ia_str_bool, ia_str_list, ia_str_tuple, ia_str_str, ia_str_seq, ia_list_int, ia_list_bool, ia_list_list, ia_list_tuple, ia_list_str, ia_list_seq, ia_tuple_int, ia_tuple_bool, ia_tuple_list, ia_tuple_tuple, ia_tuple_str, ia_tuple_seq, mLst_ap, mTup_ap, mYes_ap, frz, frzAll, peek, res1, resAll, stoAll, argOf, argsOf, bors, wback, outAt, outsFrom, ownsStay, retv, wipeF, unwipe, sto, isNone, tyD, cY, cMul, cMod, cDiv, cPow, Cell.data, b2n, atI, ixN, fMulL, h18, sizeLine_v]
  by_cases hlt : k < ns.length
  · have hq : k.toNat < ns.length := by omega
    obtain ⟨c, hc, e⟩ := key ns[k.toNat]
    refine ⟨.own c, hc, c, rfl, ?_⟩
    simp only [b_box]
    have e2 : scr ns = .list (ns.map .int) := rfl
    have step1 : mSet 2 (mLit (.int 0)) [some (.dat (scr ns)), some (.dat (.int k)), none] = some (.nx, [some (.dat (scr ns)), some (.dat (.int k)), some (.dat (.int 0))]) := by simp [mVar_ap, mLit_ap, m2_ap, mB_ap, mAndT_ap, mOrT_ap, mNotT_ap, mAndV_ap, mOrV_ap, mNotV_ap, mIfE_ap, mNil_ap, mCons_ap, mDisp_ap, gSet_ap, gsNil_ap, gsCons_ap, gTupD_ap, mSet_ap, mAsg_ap, mPar_ap, mExpr_ap, mRet_ap, mRetN_ap, mNext_ap, mBreak_ap, mCont_ap, mSeq_ap, mIf_ap, iSeq_ap, iRan_ap, iZp_ap, mFor_ap, mWhile_ap, mCall_ap, mkD_ap, mLc_ap, fI_ap, fAdd_ap, fSub_ap, fMul_ap, fMod_ap, fDiv_ap, fPow_ap, fLt_ap, fLe_ap, fGt_ap, fGe_ap, fIsN_ap, fNotN_ap, fIsB_ap, fIx_ap, fAddX_ap, fSubX_ap, fMulX_ap, m1_ap, fNeg_ap, mB1_ap, fLen_ap, fAbs_ap, fInt_ap, fMin2_ap, fMax2_ap, fList_ap, fTuple_ap, fStr_ap, mMt_ap, mMtZ_ap, fAppend_ap, fInsert_ap, fPopAt_ap, oNone_ap, oSome_ap, mSl_ap, gIx_ap, mIsi_ap, fEqX_ap, fNeX_ap, fAll_ap, fAny_ap, fSum_ap, fSorted_ap, fBest_ap, fIdx_ap, fRepr_ap, mPermA_ap, fBack_ap, gSplice_ap, mSortSet_ap, fMulY_ap, mTupRan_ap, fIsX_ap, ia_none_int, ia_none_bool, ia_none_list, ia_none_tuple, ia_none_str, ia_none_seq, ia_bool_int, ia_bool_bool, ia_bool_list, ia_bool_tuple, ia_bool_str, ia_bool_seq, ia_int_int, ia_int_bool, ia_int_list, ia_int_tuple, ia_int_str, ia_int_seq, ia_str_int, ia_str_bool, ia_str_list, ia_str_tuple, ia_str_str, ia_str_seq, ia_list_int, ia_list_bool, ia_list_list, ia_list_tuple, ia_list_str, ia_list_seq, ia_tuple_int, ia_tuple_bool, ia_tuple_list, ia_tuple_tuple, ia_tuple_str, ia_tuple_seq, mLst_ap, mTup_ap, mYes_ap, frz, frzAll, peek, res1, resAll, stoAll, argOf, argsOf, bors, wback, outAt, outsFrom, ownsStay, retv, wipeF, unwipe, sto, isNone, tyD, cY, cMul, cMod, cDiv, cPow, Cell.data, b2n, atI, ixN, fMulL]
    have step2 : mIf (mB (m2 fLt (mVar 1) (mB1 fLen (mCons (mVar 0) mNil)))) (mSet 2 (m2 fIx (mVar 0) (mVar 1))) mNext [some (.dat (scr ns)), some (.dat (.int k)), some (.dat (.int 0))] = some (.nx, [some (.dat (scr ns)), some (.dat (.int k)), some (.dat (.int ns[k.toNat]))]) := by
      simp [mVar_ap, mLit_ap, m2_ap, mB_ap, mAndT_ap, mOrT_ap, mNotT_ap, mAndV_ap, mOrV_ap, mNotV_ap, mIfE_ap, mNil_ap, mCons_ap, mDisp_ap, gSet_ap, gsNil_ap, gsCons_ap, gTupD_ap, mSet_ap, mAsg_ap, mPar_ap, mExpr_ap, mRet_ap, mRetN_ap, mNext_ap, mBreak_ap, mCont_ap, mSeq_ap, mIf_ap, iSeq_ap, iRan_ap, iZp_ap, mFor_ap, mWhile_ap, mCall_ap, mkD_ap, mLc_ap, fI_ap, fAdd_ap, fSub_ap, fMul_ap, fMod_ap, fDiv_ap, fPow_ap, fLt_ap, fLe_ap, fGt_ap, fGe_ap, fIsN_ap, fNotN_ap, fIsB_ap, fIx_ap, fAddX_ap, fSubX_ap, fMulX_ap, m1_ap, fNeg_ap, mB1_ap, fLen_ap, fAbs_ap, fInt_ap, fMin2_ap, fMax2_ap, fList_ap, fTuple_ap, fStr_ap, mMt_ap, mMtZ_ap, fAppend_ap, fInsert_ap, fPopAt_ap, oNone_ap, oSome_ap, mSl_ap, gIx_ap, mIsi_ap, fEqX_ap, fNeX_ap, fAll_ap, fAny_ap, fSum_ap, fSorted_ap, fBest_ap, fIdx_ap, fRepr_ap, mPermA_ap, fBack_ap, gSplice_ap, mSortSet_ap, fMulY_ap, mTupRan_ap, fIsX_ap, ia_none_int, ia_none_bool, ia_none_list, ia_none_tuple, ia_none_str, ia_none_seq, ia_bool_int, ia_bool_bool, ia_bool_list, ia_bool_tuple, ia_bool_str, ia_bool_seq, ia_int_int, ia_int_bool, ia_int_list, ia_int_tuple, ia_int_str, ia_int_seq, ia_str_int, ia_str_bool, ia_str_list, ia_str_tuple, ia_str_str, ia_str_seq, ia_list_int, ia_list_bool, ia_list_list, ia_list_tuple, ia_list_str, ia_list_seq, ia_tuple_int, ia_tuple_bool, ia_tuple_list, ia_tuple_tuple, ia_tuple_str, ia_tuple_seq, mLst_ap, mTup_ap, mYes_ap, frz, frzAll, peek, res1, resAll, stoAll, argOf, argsOf, bors, wback, outAt, outsFrom, ownsStay, retv, wipeF, unwipe, sto, isNone, tyD, cY, cMul, cMod, cDiv, cPow, Cell.data, b2n, atI, ixN, fMulL, e2, hlt, h0, hq]
    simp only [mkD_ap, mSeq_ap]
    simp only [List.length_cons, List.length_nil, List.map_cons, List.map_nil, List.replicate, List.cons_append, List.nil_append, ↓reduceIte, Nat.reduceAdd, Nat.reduceSub, step1, step2, e]
    simp [retv, outsFrom, outAt]
  · obtain ⟨c, hc, e⟩ := key 0
    refine ⟨.own c, hc, c, rfl, ?_⟩
    simp only [b_box]
    have e2 : scr ns = .list (ns.map .int) := rfl
    have step1 : mSet 2 (mLit (.int 0)) [some (.dat (scr ns)), some (.dat (.int k)), none] = some (.nx, [some (.dat (scr ns)), some (.dat (.int k)), some (.dat (.int 0))]) := by simp [mVar_ap, mLit_ap, m2_ap, mB_ap, mAndT_ap, mOrT_ap, mNotT_ap, mAndV_ap, mOrV_ap, mNotV_ap, mIfE_ap, mNil_ap, mCons_ap, mDisp_ap, gSet_ap, gsNil_ap, gsCons_ap, gTupD_ap, mSet_ap, mAsg_ap, mPar_ap, mExpr_ap, mRet_ap, mRetN_ap, mNext_ap, mBreak_ap, mCont_ap, mSeq_ap, mIf_ap, iSeq_ap, iRan_ap, iZp_ap, mFor_ap, mWhile_ap, mCall_ap, mkD_ap, mLc_ap, fI_ap, fAdd_ap, fSub_ap, fMul_ap, fMod_ap, fDiv_ap, fPow_ap, fLt_ap, fLe_ap, fGt_ap, fGe_ap, fIsN_ap, fNotN_ap, fIsB_ap, fIx_ap, fAddX_ap, fSubX_ap, fMulX_ap, m1_ap, fNeg_ap, mB1_ap, fLen_ap, fAbs_ap, fInt_ap, fMin2_ap, fMax2_ap, fList_ap, fTuple_ap, fStr_ap, mMt_ap, mMtZ_ap, fAppend_ap, fInsert_ap, fPopAt_ap, oNone_ap, oSome_ap, mSl_ap, gIx_ap, mIsi_ap, fEqX_ap, fNeX_ap, fAll_ap, fAny_ap, fSum_ap, fSorted_ap, fBest_ap, fIdx_ap, fRepr_ap, mPermA_ap, fBack_ap, gSplice_ap, mSortSet_ap, fMulY_ap, mTupRan_ap, fIsX_ap, ia_none_int, ia_none_bool, ia_none_list, ia_none_tuple, ia_none_str, ia_none_seq, ia_bool_int, ia_bool_bool, ia_bool_list, ia_bool_tuple, ia_bool_str, ia_bool_seq, ia_int_int, ia_int_bool, ia_int_list, ia_int_tuple, ia_int_str, ia_int_seq, ia_str_int, ia_str_bool, ia_str_list, ia_str_tuple, ia_str_str, ia_str_seq, ia_list_int, ia_list_bool, ia_list_list, ia_list_tuple, ia_list_str, ia_list_seq, ia_tuple_int, ia_tuple_bool, ia_tuple_list, ia_tuple_tuple, ia_tuple_str, ia_tuple_seq, mLst_ap, mTup_ap, mYes_ap, frz, frzAll, peek, res1, resAll, stoAll, argOf, argsOf, bors, wback, outAt, outsFrom, ownsStay, retv, wipeF, unwipe, sto, isNone, tyD, cY, cMul, cMod, cDiv, cPow, Cell.data, b2n, atI, ixN, fMulL]
    have step2 : mIf (mB (m2 fLt (mVar 1) (mB1 fLen (mCons (mVar 0) mNil)))) (mSet 2 (m2 fIx (mVar 0) (mVar 1))) mNext [some (.dat (scr ns)), some (.dat (.int k)), some (.dat (.int 0))] = some (.nx, [some (.dat (scr ns)), some (.dat (.int k)), some (.dat (.int 0))]) := by
      simp [mVar_ap, mLit_ap, m2_ap, mB_ap, mAndT_ap, mOrT_ap, mNotT_ap, mAndV_ap, mOrV_ap, mNotV_ap, mIfE_ap, mNil_ap, mCons_ap, mDisp_ap, gSet_ap, gsNil_ap, gsCons_ap, gTupD_ap, mSet_ap, mAsg_ap, mPar_ap, mExpr_ap, mRet_ap, mRetN_ap, mNext_ap, mBreak_ap, mCont_ap, mSeq_ap, mIf_ap, iSeq_ap, iRan_ap, iZp_ap, mFor_ap, mWhile_ap, mCall_ap, mkD_ap, mLc_ap, fI_ap, fAdd_ap, fSub_ap, fMul_ap, fMod_ap, fDiv_ap, fPow_ap, fLt_ap, fLe_ap, fGt_ap, fGe_ap, fIsN_ap, fNotN_ap, fIsB_ap, fIx_ap, fAddX_ap, fSubX_ap, fMulX_ap, m1_ap, fNeg_ap, mB1_ap, fLen_ap, fAbs_ap, fInt_ap, fMin2_ap, fMax2_ap, fList_ap, fTuple_ap, fStr_ap, mMt_ap, mMtZ_ap, fAppend_ap, fInsert_ap, fPopAt_ap, oNone_ap, oSome_ap, mSl_ap, gIx_ap, mIsi_ap, fEqX_ap, fNeX_ap, fAll_ap, fAny_ap, fSum_ap, fSorted_ap, fBest_ap, fIdx_ap, fRepr_ap, mPermA_ap, fBack_ap, gSplice_ap, mSortSet_ap, fMulY_ap, mTupRan_ap, fIsX_ap, ia_none_int, ia_none_bool, ia_none_list, ia_none_tuple, ia_none_str, ia_none_seq, ia_bool_int, ia_bool_bool, ia_bool_list, ia_bool_tuple, ia_bool_str, ia_bool_seq, ia_int_int, ia_int_bool, ia_int_list, ia_int_tuple, ia_int_str, ia_int_seq, ia_str_int, ia_str_bool, ia_str_list, ia_str_tuple, ia_str_str, ia_str_seq, ia_list_int, ia_list_bool, ia_list_list, ia_list_tuple, ia_list_str, ia_list_seq, ia_tuple_int, ia_tuple_bool, ia_tuple_list, ia_tuple_tuple, ia_tuple_str, ia_tuple_seq, mLst_ap, mTup_ap, mYes_ap, frz, frzAll, peek, res1, resAll, stoAll, argOf, argsOf, bors, wback, outAt, outsFrom, ownsStay, retv, wipeF, unwipe, sto, isNone, tyD, cY, cMul, cMod, cDiv, cPow, Cell.data, b2n, atI, ixN, fMulL, e2, hlt, h0]
    simp only [mkD_ap, mSeq_ap]
    simp only [List.length_cons, List.length_nil, List.map_cons, List.map_nil, List.replicate, List.cons_append, List.nil_append, ↓reduceIte, Nat.reduceAdd, Nat.reduceSub, step1, step2, e]
    simp [retv, outsFrom, outAt]
end Lk01

namespace Lk01
open PySem PySem.Spec PyProof.Rows L2 Rf
theorem shaped_bool (b : Bool) : SeqAt.shaped (.bool b) = true := by simp [SeqAt.shaped, PyData.canLay0, PyData.depth]
theorem eqv_bool (a b : Bool) : PyData.eqv (.bool a) (.bool b) = decide (a = b) := by cases a <;> cases b <;> simp [PyData.eqv]
theorem same1 {n : Nat} (hn : 1 ≤ n) (b : Bool) : D_same n [.dat (.bool b), .dat (.bool b)] = some (.dat (.bool true), [.dat (.bool b), .dat (.bool b)]) := by
  obtain ⟨n, rfl⟩ : ∃ m, n = m + 1 := ⟨n - 1, by omega⟩
  rw [e_same]
  simp [b_same, mVar_ap, mLit_ap, m2_ap, mB_ap, mAndT_ap, mOrT_ap, mNotT_ap, mAndV_ap, mOrV_ap, mNotV_ap, mIfE_ap, mNil_ap, mCons_ap, mDisp_ap, gSet_ap, gsNil_ap, gsCons_ap, gTupD_ap, mSet_ap, mAsg_ap, mPar_ap, mExpr_ap, mRet_ap, mRetN_ap, mNext_ap, mBreak_ap, mCont_ap, mSeq_ap, mIf_ap, iSeq_ap, iRan_ap, iZp_ap, mFor_ap, mWhile_ap, mCall_ap, mkD_ap, mLc_ap, fI_ap, fAdd_ap, fSub_ap, fMul_ap, fMod_ap, fDiv_ap, fPow_ap, fLt_ap, fLe_ap, fGt_ap, fGe_ap, fIsN_ap, fNotN_ap, fIsB_ap, fIx_ap, fAddX_ap, fSubX_ap, fMulX_ap, m1_ap, fNeg_ap, mB1_ap, fLen_ap, fAbs_ap, fInt_ap, fMin2_ap, fMax2_ap, fList_ap, fTuple_ap, fStr_ap, mMt_ap, mMtZ_ap, fAppend_ap, fInsert_ap, fPopAt_ap, oNone_ap, oSome_ap, mSl_ap, gIx_ap, mIsi_ap, fEqX_ap, fNeX_ap, fAll_ap, fAny_ap, fSum_ap, fSorted_ap, fBest_ap, fIdx_ap, fRepr_ap, mPermA_ap, fBack_ap, gSplice_ap, mSortSet_ap, fMulY_ap, mTupRan_ap, fIsX_ap, ia_none_int, ia_none_bool, ia_none_list, ia_none_tuple, ia_none_str, ia_none_seq, ia_bool_int, ia_bool_bool, ia_bool_list, ia_bool_tuple, ia_bool_str, ia_bool_seq, ia_int_int, ia_int_bool, ia_int_list, ia_int_tuple, ia_int_str, ia_int_seq, ia_str_int, ia_str_bool, ia_str_list, ia_str_tuple, ia_str_str, ia_str_seq, ia_list_int, ia_list_bool, ia_list_list, ia_list_tuple, ia_list_str, ia_list_seq, ia_tuple_int, ia_tuple_bool, ia_tuple_list, ia_tuple_tuple, ia_tuple_str, ia_tuple_seq, mLst_ap, mTup_ap, mYes_ap, frz, frzAll, peek, res1, resAll, stoAll, argOf, argsOf, bors, wback, outAt, outsFrom, ownsStay, retv, wipeF, unwipe, sto, isNone, tyD, cY, cMul, cMod, cDiv, cPow, Cell.data, b2n, atI, ixN, fMulL, shaped_bool, eqv_bool]
theorem same2 {n : Nat} (hn : 2 ≤ n) (b : Bool) : ∃ outs, D_same n [.own (.lst [.bool b, .bool b]), .own (.lst [.bool b, .bool b])] = some (.dat (.bool true), outs) := by
  obtain ⟨n, rfl⟩ : ∃ m, n = m + 1 := ⟨n - 1, by omega⟩
  rw [e_same]
  have h1 := same1 (n := n) (by omega) b
  simp [b_same, mVar_ap, mLit_ap, m2_ap, mB_ap, mAndT_ap, mOrT_ap, mNotT_ap, mAndV_ap, mOrV_ap, mNotV_ap, mIfE_ap, mNil_ap, mCons_ap, mDisp_ap, gSet_ap, gsNil_ap, gsCons_ap, gTupD_ap, mSet_ap, mAsg_ap, mPar_ap, mExpr_ap, mRet_ap, mRetN_ap, mNext_ap, mBreak_ap, mCont_ap, mSeq_ap, mIf_ap, iSeq_ap, iRan_ap, iZp_ap, mFor_ap, mWhile_ap, mCall_ap, mkD_ap, mLc_ap, fI_ap, fAdd_ap, fSub_ap, fMul_ap, fMod_ap, fDiv_ap, fPow_ap, fLt_ap, fLe_ap, fGt_ap, fGe_ap, fIsN_ap, fNotN_ap, fIsB_ap, fIx_ap, fAddX_ap, fSubX_ap, fMulX_ap, m1_ap, fNeg_ap, mB1_ap, fLen_ap, fAbs_ap, fInt_ap, fMin2_ap, fMax2_ap, fList_ap, fTuple_ap, fStr_ap, mMt_ap, mMtZ_ap, fAppend_ap, fInsert_ap, fPopAt_ap, oNone_ap, oSome_ap, mSl_ap, gIx_ap, mIsi_ap, fEqX_ap, fNeX_ap, fAll_ap, fAny_ap, fSum_ap, fSorted_ap, fBest_ap, fIdx_ap, fRepr_ap, mPermA_ap, fBack_ap, gSplice_ap, mSortSet_ap, fMulY_ap, mTupRan_ap, fIsX_ap, ia_none_int, ia_none_bool, ia_none_list, ia_none_tuple, ia_none_str, ia_none_seq, ia_bool_int, ia_bool_bool, ia_bool_list, ia_bool_tuple, ia_bool_str, ia_bool_seq, ia_int_int, ia_int_bool, ia_int_list, ia_int_tuple, ia_int_str, ia_int_seq, ia_str_int, ia_str_bool, ia_str_list, ia_str_tuple, ia_str_str, ia_str_seq, ia_list_int, ia_list_bool, ia_list_list, ia_list_tuple, ia_list_str, ia_list_seq, ia_tuple_int, ia_tuple_bool, ia_tuple_list, ia_tuple_tuple, ia_tuple_str, ia_tuple_seq, mLst_ap, mTup_ap, mYes_ap, frz, frzAll, peek, res1, resAll, stoAll, argOf, argsOf, bors, wback, outAt, outsFrom, ownsStay, retv, wipeF, unwipe, sto, isNone, tyD, cY, cMul, cMod, cDiv, cPow, Cell.data, b2n, atI, ixN, fMulL, shaped_bool, eqv_bool, shaped_int, eqv_int, zip2, compM, h1, sizeLine_v, boolsD]
/-- tuples turned to lists -/
def LsAt (l b h n : Nat) (d : PyData) : Prop := ∃ r v, D_lists n [.dat d] = some (v, [.dat d]) ∧ Ok l b h r ∧ sz r = sz d ∧ (v = .dat r ∨ ∃ c, v = .fre c ∧ c.data = r)
theorem lists_key {l b h n : Nat} (IH : ∀ d, Ok l b h d → LsAt l b h n d) : ∀ (ds : List PyData), ds.length ≤ l → (∀ x ∈ ds, Ok l b h x) → ∃ rs : List PyData, rs.length = ds.length ∧ (∀ x ∈ rs, Ok l b h x) ∧ szA rs = szA ds ∧ ∀ (q : PyData) (acc : List PyData), acc.length + ds.length ≤ 2000 → compM (gSet 1) mYes (mCall (D_lists n) (mCons (mVar 1) mNil)) [1] ds [some (.dat q), none] acc = some (acc ++ rs, [some (.dat q), none]) := by
  intro ds
  induction ds with
  | nil => intro _ _; exact ⟨[], rfl, by simp, rfl, by simp [compM]⟩
  | cons d ds ih =>
    intro hq hx
    obtain ⟨rs, r1, r2, r3, r4⟩ := ih (by simp at hq; omega) fun x m => hx x (by simp [m])
    obtain ⟨r, v, s1, s2, s3, s4⟩ := IH d (hx d (by simp))
    refine ⟨r :: rs, by simp [r1], ?_, by rw [szA_cons, szA_cons, r3, s3], ?_⟩
    · intro x m
      rcases List.mem_cons.1 m with m | m
      · subst m; exact s2
      · exact r2 x m
    · intro q acc ha
      have r5 := r4 q (acc ++ [r]) (by simp at ha ⊢; omega)
      have hlt : acc.length < 16777216 := by simp at ha; omega
      rcases s4 with rfl | ⟨c, rfl, hc⟩
      · simp [compM, mVar_ap, mLit_ap, m2_ap, mB_ap, mAndT_ap, mOrT_ap, mNotT_ap, mAndV_ap, mOrV_ap, mNotV_ap, mIfE_ap, mNil_ap, mCons_ap, mDisp_ap, gSet_ap, gsNil_ap, gsCons_ap, gTupD_ap, mSet_ap, mAsg_ap, mPar_ap, mExpr_ap, mRet_ap, mRetN_ap, mNext_ap, mBreak_ap, mCont_ap, mSeq_ap, mIf_ap, iSeq_ap, iRan_ap, iZp_ap, mFor_ap, mWhile_ap, mCall_ap, mkD_ap, mLc_ap, fI_ap, fAdd_ap, fSub_ap, fMul_ap, fMod_ap, fDiv_ap, fPow_ap, fLt_ap, fLe_ap, fGt_ap, fGe_ap, fIsN_ap, fNotN_ap, fIsB_ap, fIx_ap, fAddX_ap, fSubX_ap, fMulX_ap, m1_ap, fNeg_ap, mB1_ap, fLen_ap, fAbs_ap, fInt_ap, fMin2_ap, fMax2_ap, fList_ap, fTuple_ap, fStr_ap, mMt_ap, mMtZ_ap, fAppend_ap, fInsert_ap, fPopAt_ap, oNone_ap, oSome_ap, mSl_ap, gIx_ap, mIsi_ap, fEqX_ap, fNeX_ap, fAll_ap, fAny_ap, fSum_ap, fSorted_ap, fBest_ap, fIdx_ap, fRepr_ap, mPermA_ap, fBack_ap, gSplice_ap, mSortSet_ap, fMulY_ap, mTupRan_ap, fIsX_ap, ia_none_int, ia_none_bool, ia_none_list, ia_none_tuple, ia_none_str, ia_none_seq, ia_bool_int, ia_bool_bool, ia_bool_list, ia_bool_tuple, ia_bool_str, ia_bool_seq, ia_int_int, ia_int_bool, ia_int_list, ia_int_tuple, ia_int_str, ia_int_seq, ia_str_int, ia_str_bool, ia_str_list, ia_str_tuple, ia_str_str, ia_str_seq, ia_list_int, ia_list_bool, ia_list_list, ia_list_tuple, ia_list_str, ia_list_seq, ia_tuple_int, ia_tuple_bool, ia_tuple_list, ia_tuple_tuple, ia_tuple_str, ia_tuple_seq, mLst_ap, mTup_ap, mYes_ap, frz, frzAll, peek, res1, resAll, stoAll, argOf, argsOf, bors, wback, outAt, outsFrom, ownsStay, retv, wipeF, unwipe, sto, isNone, tyD, cY, cMul, cMod, cDiv, cPow, Cell.data, b2n, atI, ixN, fMulL, s1, hlt, sizeLine_v]
        simpa using r5
      · simp [compM, mVar_ap, mLit_ap, m2_ap, mB_ap, mAndT_ap, mOrT_ap, mNotT_ap, mAndV_ap, mOrV_ap, mNotV_ap, mIfE_ap, mNil_ap, mCons_ap, mDisp_ap, gSet_ap, gsNil_ap, gsCons_ap, gTupD_ap, mSet_ap, mAsg_ap, mPar_ap, mExpr_ap, mRet_ap, mRetN_ap, mNext_ap, mBreak_ap, mCont_ap, mSeq_ap, mIf_ap, iSeq_ap, iRan_ap, iZp_ap, mFor_ap, mWhile_ap, mCall_ap, mkD_ap, mLc_ap, fI_ap, fAdd_ap, fSub_ap, fMul_ap, fMod_ap, fDiv_ap, fPow_ap, fLt_ap, fLe_ap, fGt_ap, fGe_ap, fIsN_ap, fNotN_ap, fIsB_ap, fIx_ap, fAddX_ap, fSubX_ap, fMulX_ap, m1_ap, fNeg_ap, mB1_ap, fLen_ap, fAbs_ap, fInt_ap, fMin2_ap, fMax2_ap, fList_ap, fTuple_ap, fStr_ap, mMt_ap, mMtZ_ap, fAppend_ap, fInsert_ap, fPopAt_ap, oNone_ap, oSome_ap, mSl_ap, gIx_ap, mIsi_ap, fEqX_ap, fNeX_ap, fAll_ap, fAny_ap, fSum_ap, fSorted_ap, fBest_ap, fIdx_ap, fRepr_ap, mPermA_ap, fBack_ap, gSplice_ap, mSortSet_ap, fMulY_ap, mTupRan_ap, fIsX_ap, ia_none_int, ia_none_bool, ia_none_list, ia_none_tuple, ia_none_str, ia_none_seq, ia_bool_int, ia_bool_bool, ia_bool_list, ia_bool_tuple, ia_bool_str, ia_bool_seq, ia_int_int, ia_int_bool, ia_int_list, ia_int_tuple, ia_int_str, ia_int_seq, ia_str_int, ia_str_bool, ia_str_list, ia_str_tuple, ia_str_str, ia_str_seq, ia_list_int, ia_list_bool, ia_list_list, ia_list_tuple, ia_list_str, ia_list_seq, ia_tuple_int, ia_tuple_bool, ia_tuple_list, ia_tuple_tuple, ia_tuple_str, ia_tuple_seq, mLst_ap, mTup_ap, mYes_ap, frz, frzAll, peek, res1, resAll, stoAll, argOf, argsOf, bors, wback, outAt, outsFrom, ownsStay, retv, wipeF, unwipe, sto, isNone, tyD, cY, cMul, cMod, cDiv, cPow, Cell.data, b2n, fMulL, s1, hlt, sizeLine_v]
        obtain ⟨xs⟩ := c
        simp only [Cell.data] at hc
        rw [hc]
        simpa using r5
theorem lists_ok {l b : Nat} (hl : l ≤ 1000) : ∀ {h n : Nat} {d : PyData}, h + 1 ≤ n → Ok l b h d → LsAt l b h n d := by
  intro h
  induction h with
  | zero =>
    intro n d hn o
    obtain ⟨n, rfl⟩ : ∃ m, n = m + 1 := ⟨n - 1, by omega⟩
    unfold LsAt
    rw [e_lists]
    match d, o with
    | .none, o => exact ⟨.none, .dat .none, by simp [b_lists, mVar_ap, mLit_ap, m2_ap, mB_ap, mAndT_ap, mOrT_ap, mNotT_ap, mAndV_ap, mOrV_ap, mNotV_ap, mIfE_ap, mNil_ap, mCons_ap, mDisp_ap, gSet_ap, gsNil_ap, gsCons_ap, gTupD_ap, mSet_ap, mAsg_ap, mPar_ap, mExpr_ap, mRet_ap, mRetN_ap, mNext_ap, mBreak_ap, mCont_ap, mSeq_ap, mIf_ap, iSeq_ap, iRan_ap, iZp_ap, mFor_ap, mWhile_ap, mCall_ap, mkD_ap, mLc_ap, fI_ap, fAdd_ap, fSub_ap, fMul_ap, fMod_ap, fDiv_ap, fPow_ap, fLt_ap, fLe_ap, fGt_ap, fGe_ap, fIsN_ap, fNotN_ap, fIsB_ap, fIx_ap, fAddX_ap, fSubX_ap, fMulX_ap, m1_ap, fNeg_ap, mB1_ap, fLen_ap, fAbs_ap, fInt_ap, fMin2_ap, fMax2_ap, fList_ap, fTuple_ap, fStr_ap, mMt_ap, mMtZ_ap, fAppend_ap, fInsert_ap, fPopAt_ap, oNone_ap, oSome_ap, mSl_ap, gIx_ap, mIsi_ap, fEqX_ap, fNeX_ap, fAll_ap, fAny_ap, fSum_ap, fSorted_ap, fBest_ap, fIdx_ap, fRepr_ap, mPermA_ap, fBack_ap, gSplice_ap, mSortSet_ap, fMulY_ap, mTupRan_ap, fIsX_ap, ia_none_int, ia_none_bool, ia_none_list, ia_none_tuple, ia_none_str, ia_none_seq, ia_bool_int, ia_bool_bool, ia_bool_list, ia_bool_tuple, ia_bool_str, ia_bool_seq, ia_int_int, ia_int_bool, ia_int_list, ia_int_tuple, ia_int_str, ia_int_seq, ia_str_int, ia_str_bool, ia_str_list, ia_str_tuple, ia_str_str, ia_str_seq, ia_list_int, ia_list_bool, ia_list_list, ia_list_tuple, ia_list_str, ia_list_seq, ia_tuple_int, ia_tuple_bool, ia_tuple_list, ia_tuple_tuple, ia_tuple_str, ia_tuple_seq, mLst_ap, mTup_ap, mYes_ap, frz, frzAll, peek, res1, resAll, stoAll, argOf, argsOf, bors, wback, outAt, outsFrom, ownsStay, retv, wipeF, unwipe, sto, isNone, tyD, cY, cMul, cMod, cDiv, cPow, Cell.data, b2n, atI, ixN, fMulL], o, rfl, .inl rfl⟩
    | .bool t, o => exact ⟨.bool t, .dat (.bool t), by simp [b_lists, mVar_ap, mLit_ap, m2_ap, mB_ap, mAndT_ap, mOrT_ap, mNotT_ap, mAndV_ap, mOrV_ap, mNotV_ap, mIfE_ap, mNil_ap, mCons_ap, mDisp_ap, gSet_ap, gsNil_ap, gsCons_ap, gTupD_ap, mSet_ap, mAsg_ap, mPar_ap, mExpr_ap, mRet_ap, mRetN_ap, mNext_ap, mBreak_ap, mCont_ap, mSeq_ap, mIf_ap, iSeq_ap, iRan_ap, iZp_ap, mFor_ap, mWhile_ap, mCall_ap, mkD_ap, mLc_ap, fI_ap, fAdd_ap, fSub_ap, fMul_ap, fMod_ap, fDiv_ap, fPow_ap, fLt_ap, fLe_ap, fGt_ap, fGe_ap, fIsN_ap, fNotN_ap, fIsB_ap, fIx_ap, fAddX_ap, fSubX_ap, fMulX_ap, m1_ap, fNeg_ap, mB1_ap, fLen_ap, fAbs_ap, fInt_ap, fMin2_ap, fMax2_ap, fList_ap, fTuple_ap, fStr_ap, mMt_ap, mMtZ_ap, fAppend_ap, fInsert_ap, fPopAt_ap, oNone_ap, oSome_ap, mSl_ap, gIx_ap, mIsi_ap, fEqX_ap, fNeX_ap, fAll_ap, fAny_ap, fSum_ap, fSorted_ap, fBest_ap, fIdx_ap, fRepr_ap, mPermA_ap, fBack_ap, gSplice_ap, mSortSet_ap, fMulY_ap, mTupRan_ap, fIsX_ap, ia_none_int, ia_none_bool, ia_none_list, ia_none_tuple, ia_none_str, ia_none_seq, ia_bool_int, ia_bool_bool, ia_bool_list, ia_bool_tuple, ia_bool_str, ia_bool_seq, ia_int_int, ia_int_bool, ia_int_list, ia_int_tuple, ia_int_str, ia_int_seq, ia_str_int, ia_str_bool, ia_str_list, ia_str_tuple, ia_str_str, ia_str_seq, ia_list_int, ia_list_bool, ia_list_list, ia_list_tuple, ia_list_str, ia_list_seq, ia_tuple_int, ia_tuple_bool, ia_tuple_list, ia_tuple_tuple, ia_tuple_str, ia_tuple_seq, mLst_ap, mTup_ap, mYes_ap, frz, frzAll, peek, res1, resAll, stoAll, argOf, argsOf, bors, wback, outAt, outsFrom, ownsStay, retv, wipeF, unwipe, sto, isNone, tyD, cY, cMul, cMod, cDiv, cPow, Cell.data, b2n, atI, ixN, fMulL], o, rfl, .inl rfl⟩
    | .int t, o => exact ⟨.int t, .dat (.int t), by simp [b_lists, mVar_ap, mLit_ap, m2_ap, mB_ap, mAndT_ap, mOrT_ap, mNotT_ap, mAndV_ap, mOrV_ap, mNotV_ap, mIfE_ap, mNil_ap, mCons_ap, mDisp_ap, gSet_ap, gsNil_ap, gsCons_ap, gTupD_ap, mSet_ap, mAsg_ap, mPar_ap, mExpr_ap, mRet_ap, mRetN_ap, mNext_ap, mBreak_ap, mCont_ap, mSeq_ap, mIf_ap, iSeq_ap, iRan_ap, iZp_ap, mFor_ap, mWhile_ap, mCall_ap, mkD_ap, mLc_ap, fI_ap, fAdd_ap, fSub_ap, fMul_ap, fMod_ap, fDiv_ap, fPow_ap, fLt_ap, fLe_ap, fGt_ap, fGe_ap, fIsN_ap, fNotN_ap, fIsB_ap, fIx_ap, fAddX_ap, fSubX_ap, fMulX_ap, m1_ap, fNeg_ap, mB1_ap, fLen_ap, fAbs_ap, fInt_ap, fMin2_ap, fMax2_ap, fList_ap, fTuple_ap, fStr_ap, mMt_ap, mMtZ_ap, fAppend_ap, fInsert_ap, fPopAt_ap, oNone_ap, oSome_ap, mSl_ap, gIx_ap, mIsi_ap, fEqX_ap, fNeX_ap, fAll_ap, fAny_ap, fSum_ap, fSorted_ap, fBest_ap, fIdx_ap, fRepr_ap, mPermA_ap, fBack_ap, gSplice_ap, mSortSet_ap, fMulY_ap, mTupRan_ap, fIsX_ap, ia_none_int, ia_none_bool, ia_none_list, ia_none_tuple, ia_none_str, ia_none_seq, ia_bool_int, ia_bool_bool, ia_bool_list, ia_bool_tuple, ia_bool_str, ia_bool_seq, ia_int_int, ia_int_bool, ia_int_list, ia_int_tuple, ia_int_str, ia_int_seq, ia_str_int, ia_str_bool, ia_str_list, ia_str_tuple, ia_str_str, ia_str_seq, ia_list_int, ia_list_bool, ia_list_list, ia_list_tuple, ia_list_str, ia_list_seq, ia_tuple_int, ia_tuple_bool, ia_tuple_list, ia_tuple_tuple, ia_tuple_str, ia_tuple_seq, mLst_ap, mTup_ap, mYes_ap, frz, frzAll, peek, res1, resAll, stoAll, argOf, argsOf, bors, wback, outAt, outsFrom, ownsStay, retv, wipeF, unwipe, sto, isNone, tyD, cY, cMul, cMod, cDiv, cPow, Cell.data, b2n, atI, ixN, fMulL], o, rfl, .inl rfl⟩
    | .str t, o => exact ⟨.str t, .dat (.str t), by simp [b_lists, mVar_ap, mLit_ap, m2_ap, mB_ap, mAndT_ap, mOrT_ap, mNotT_ap, mAndV_ap, mOrV_ap, mNotV_ap, mIfE_ap, mNil_ap, mCons_ap, mDisp_ap, gSet_ap, gsNil_ap, gsCons_ap, gTupD_ap, mSet_ap, mAsg_ap, mPar_ap, mExpr_ap, mRet_ap, mRetN_ap, mNext_ap, mBreak_ap, mCont_ap, mSeq_ap, mIf_ap, iSeq_ap, iRan_ap, iZp_ap, mFor_ap, mWhile_ap, mCall_ap, mkD_ap, mLc_ap, fI_ap, fAdd_ap, fSub_ap, fMul_ap, fMod_ap, fDiv_ap, fPow_ap, fLt_ap, fLe_ap, fGt_ap, fGe_ap, fIsN_ap, fNotN_ap, fIsB_ap, fIx_ap, fAddX_ap, fSubX_ap, fMulX_ap, m1_ap, fNeg_ap, mB1_ap, fLen_ap, fAbs_ap, fInt_ap, fMin2_ap, fMax2_ap, fList_ap, fTuple_ap, fStr_ap, mMt_ap, mMtZ_ap, fAppend_ap, fInsert_ap, fPopAt_ap, oNone_ap, oSome_ap, mSl_ap, gIx_ap, mIsi_ap, fEqX_ap, fNeX_ap, fAll_ap, fAny_ap, fSum_ap, fSorted_ap, fBest_ap, fIdx_ap, fRepr_ap, mPermA_ap, fBack_ap, gSplice_ap, mSortSet_ap, fMulY_ap, mTupRan_ap, fIsX_ap, ia_none_int, ia_none_bool, ia_none_list, ia_none_tuple, ia_none_str, ia_none_seq, ia_bool_int, ia_bool_bool, ia_bool_list, ia_bool_tuple, ia_bool_str, ia_bool_seq, ia_int_int, ia_int_bool, ia_int_list, ia_int_tuple, ia_int_str, ia_int_seq, ia_str_int, ia_str_bool, ia_str_list, ia_str_tuple, ia_str_str, ia_str_seq, ia_list_int, ia_list_bool, ia_list_list, ia_list_tuple, ia_list_str, ia_list_seq, ia_tuple_int, ia_tuple_bool, ia_tuple_list, ia_tuple_tuple, ia_tuple_str, ia_tuple_seq, mLst_ap, mTup_ap, mYes_ap, frz, frzAll, peek, res1, resAll, stoAll, argOf, argsOf, bors, wback, outAt, outsFrom, ownsStay, retv, wipeF, unwipe, sto, isNone, tyD, cY, cMul, cMod, cDiv, cPow, Cell.data, b2n, atI, ixN, fMulL], o, rfl, .inl rfl⟩
    | .dict _, o => simp [Ok] at o
    | .list ds, o => simp [Ok] at o
    | .tuple ds, o => simp [Ok] at o
  | succ h IH =>
    intro n d hn o
    obtain ⟨n, rfl⟩ : ∃ m, n = m + 1 := ⟨n - 1, by omega⟩
    unfold LsAt
    rw [e_lists]
    match d, o with
    | .none, o => exact ⟨.none, .dat .none, by simp [b_lists, mVar_ap, mLit_ap, m2_ap, mB_ap, mAndT_ap, mOrT_ap, mNotT_ap, mAndV_ap, mOrV_ap, mNotV_ap, mIfE_ap, mNil_ap, mCons_ap, mDisp_ap, gSet_ap, gsNil_ap, gsCons_ap, gTupD_ap, mSet_ap, mAsg_ap, mPar_ap, mExpr_ap, mRet_ap, mRetN_ap, mNext_ap, mBreak_ap, mCont_ap, mSeq_ap, mIf_ap, iSeq_ap, iRan_ap, iZp_ap, mFor_ap, mWhile_ap, mCall_ap, mkD_ap, mLc_ap, fI_ap, fAdd_ap, fSub_ap, fMul_ap, fMod_ap, fDiv_ap, fPow_ap, fLt_ap, fLe_ap, fGt_ap, fGe_ap, fIsN_ap, fNotN_ap, fIsB_ap, fIx_ap, fAddX_ap, fSubX_ap, fMulX_ap, m1_ap, fNeg_ap, mB1_ap, fLen_ap, fAbs_ap, fInt_ap, fMin2_ap, fMax2_ap, fList_ap, fTuple_ap, fStr_ap, mMt_ap, mMtZ_ap, fAppend_ap, fInsert_ap, fPopAt_ap, oNone_ap, oSome_ap, mSl_ap, gIx_ap, mIsi_ap, fEqX_ap, fNeX_ap, fAll_ap, fAny_ap, fSum_ap, fSorted_ap, fBest_ap, fIdx_ap, fRepr_ap, mPermA_ap, fBack_ap, gSplice_ap, mSortSet_ap, fMulY_ap, mTupRan_ap, fIsX_ap, ia_none_int, ia_none_bool, ia_none_list, ia_none_tuple, ia_none_str, ia_none_seq, ia_bool_int, ia_bool_bool, ia_bool_list, ia_bool_tuple, ia_bool_str, ia_bool_seq, ia_int_int, ia_int_bool, ia_int_list, ia_int_tuple, ia_int_str, ia_int_seq, ia_str_int, ia_str_bool, ia_str_list, ia_str_tuple, ia_str_str, ia_str_seq, ia_list_int, ia_list_bool, ia_list_list, ia_list_tuple, ia_list_str, ia_list_seq, ia_tuple_int, ia_tuple_bool, ia_tuple_list, ia_tuple_tuple, ia_tuple_str, ia_tuple_seq, mLst_ap, mTup_ap, mYes_ap, frz, frzAll, peek, res1, resAll, stoAll, argOf, argsOf, bors, wback, outAt, outsFrom, ownsStay, retv, wipeF, unwipe, sto, isNone, tyD, cY, cMul, cMod, cDiv, cPow, Cell.data, b2n, atI, ixN, fMulL], o, rfl, .inl rfl⟩
    | .bool t, o => exact ⟨.bool t, .dat (.bool t), by simp [b_lists, mVar_ap, mLit_ap, m2_ap, mB_ap, mAndT_ap, mOrT_ap, mNotT_ap, mAndV_ap, mOrV_ap, mNotV_ap, mIfE_ap, mNil_ap, mCons_ap, mDisp_ap, gSet_ap, gsNil_ap, gsCons_ap, gTupD_ap, mSet_ap, mAsg_ap, mPar_ap, mExpr_ap, mRet_ap, mRetN_ap, mNext_ap, mBreak_ap, mCont_ap, mSeq_ap, mIf_ap, iSeq_ap, iRan_ap, iZp_ap, mFor_ap, mWhile_ap, mCall_ap, mkD_ap, mLc_ap, fI_ap, fAdd_ap, fSub_ap, fMul_ap, fMod_ap, fDiv_ap, fPow_ap, fLt_ap, fLe_ap, fGt_ap, fGe_ap, fIsN_ap, fNotN_ap, fIsB_ap, fIx_ap, fAddX_ap, fSubX_ap, fMulX_ap, m1_ap, fNeg_ap, mB1_ap, fLen_ap, fAbs_ap, fInt_ap, fMin2_ap, fMax2_ap, fList_ap, fTuple_ap, fStr_ap, mMt_ap, mMtZ_ap, fAppend_ap, fInsert_ap, fPopAt_ap, oNone_ap, oSome_ap, mSl_ap, gIx_ap, mIsi_ap, fEqX_ap, fNeX_ap, fAll_ap, fAny_ap, fSum_ap, fSorted_ap, fBest_ap, fIdx_ap, fRepr_ap, mPermA_ap, fBack_ap, gSplice_ap, mSortSet_ap, fMulY_ap, mTupRan_ap, fIsX_ap, ia_none_int, ia_none_bool, ia_none_list, ia_none_tuple, ia_none_str, ia_none_seq, ia_bool_int, ia_bool_bool, ia_bool_list, ia_bool_tuple, ia_bool_str, ia_bool_seq, ia_int_int, ia_int_bool, ia_int_list, ia_int_tuple, ia_int_str, ia_int_seq, ia_str_int, ia_str_bool, ia_str_list, ia_str_tuple, ia_str_str, ia_str_seq, ia_list_int, ia_list_bool, ia_list_list, ia_list_tuple, ia_list_str, ia_list_seq, ia_tuple_int, ia_tuple_bool, ia_tuple_list, ia_tuple_tuple, ia_tuple_str, ia_tuple_seq, mLst_ap, mTup_ap, mYes_ap, frz, frzAll, peek, res1, resAll, stoAll, argOf, argsOf, bors, wback, outAt, outsFrom, ownsStay, retv, wipeF, unwipe, sto, isNone, tyD, cY, cMul, cMod, cDiv, cPow, Cell.data, b2n, atI, ixN, fMulL], o, rfl, .inl rfl⟩
    | .int t, o => exact ⟨.int t, .dat (.int t), by simp [b_lists, mVar_ap, mLit_ap, m2_ap, mB_ap, mAndT_ap, mOrT_ap, mNotT_ap, mAndV_ap, mOrV_ap, mNotV_ap, mIfE_ap, mNil_ap, mCons_ap, mDisp_ap, gSet_ap, gsNil_ap, gsCons_ap, gTupD_ap, mSet_ap, mAsg_ap, mPar_ap, mExpr_ap, mRet_ap, mRetN_ap, mNext_ap, mBreak_ap, mCont_ap, mSeq_ap, mIf_ap, iSeq_ap, iRan_ap, iZp_ap, mFor_ap, mWhile_ap, mCall_ap, mkD_ap, mLc_ap, fI_ap, fAdd_ap, fSub_ap, fMul_ap, fMod_ap, fDiv_ap, fPow_ap, fLt_ap, fLe_ap, fGt_ap, fGe_ap, fIsN_ap, fNotN_ap, fIsB_ap, fIx_ap, fAddX_ap, fSubX_ap, fMulX_ap, m1_ap, fNeg_ap, mB1_ap, fLen_ap, fAbs_ap, fInt_ap, fMin2_ap, fMax2_ap, fList_ap, fTuple_ap, fStr_ap, mMt_ap, mMtZ_ap, fAppend_ap, fInsert_ap, fPopAt_ap, oNone_ap, oSome_ap, mSl_ap, gIx_ap, mIsi_ap, fEqX_ap, fNeX_ap, fAll_ap, fAny_ap, fSum_ap, fSorted_ap, fBest_ap, fIdx_ap, fRepr_ap, mPermA_ap, fBack_ap, gSplice_ap, mSortSet_ap, fMulY_ap, mTupRan_ap, fIsX_ap, ia_none_int, ia_none_bool, ia_none_list, ia_none_tuple, ia_none_str, ia_none_seq, ia_bool_int, ia_bool_bool, ia_bool_list, ia_bool_tuple, ia_bool_str, ia_bool_seq, ia_int_int, ia_int_bool, ia_int_list, ia_int_tuple, ia_int_str, ia_int_seq, ia_str_int, ia_str_bool, ia_str_list, ia_str_tuple, ia_str_str, ia_str_seq, ia_list_int, ia_list_bool, ia_list_list, ia_list_tuple, ia_list_str, ia_list_seq, ia_tuple_int, ia_tuple_bool, ia_tuple_list, ia_tuple_tuple, ia_tuple_str, ia_tuple_seq, mLst_ap, mTup_ap, mYes_ap, frz, frzAll, peek, res1, resAll, stoAll, argOf, argsOf, bors, wback, outAt, outsFrom, ownsStay, retv, wipeF, unwipe, sto, isNone, tyD, cY, cMul, cMod, cDiv, cPow, Cell.data, b2n, atI, ixN, fMulL], o, rfl, .inl rfl⟩
    | .str t, o => exact ⟨.str t, .dat (.str t), by simp [b_lists, mVar_ap, mLit_ap, m2_ap, mB_ap, mAndT_ap, mOrT_ap, mNotT_ap, mAndV_ap, mOrV_ap, mNotV_ap, mIfE_ap, mNil_ap, mCons_ap, mDisp_ap, gSet_ap, gsNil_ap, gsCons_ap, gTupD_ap, mSet_ap, mAsg_ap, mPar_ap, mExpr_ap, mRet_ap, mRetN_ap, mNext_ap, mBreak_ap, mCont_ap, mSeq_ap, mIf_ap, iSeq_ap, iRan_ap, iZp_ap, mFor_ap, mWhile_ap, mCall_ap, mkD_ap, mLc_ap, fI_ap, fAdd_ap, fSub_ap, fMul_ap, fMod_ap, fDiv_ap, fPow_ap, fLt_ap, fLe_ap, fGt_ap, fGe_ap, fIsN_ap, fNotN_ap, fIsB_ap, fIx_ap, fAddX_ap, fSubX_ap, fMulX_ap, m1_ap, fNeg_ap, mB1_ap, fLen_ap, fAbs_ap, fInt_ap, fMin2_ap, fMax2_ap, fList_ap, fTuple_ap, fStr_ap, mMt_ap, mMtZ_ap, fAppend_ap, fInsert_ap, fPopAt_ap, oNone_ap, oSome_ap, mSl_ap, gIx_ap, mIsi_ap, fEqX_ap, fNeX_ap, fAll_ap, fAny_ap, fSum_ap, fSorted_ap, fBest_ap, fIdx_ap, fRepr_ap, mPermA_ap, fBack_ap, gSplice_ap, mSortSet_ap, fMulY_ap, mTupRan_ap, fIsX_ap, ia_none_int, ia_none_bool, ia_none_list, ia_none_tuple, ia_none_str, ia_none_seq, ia_bool_int, ia_bool_bool, ia_bool_list, ia_bool_tuple, ia_bool_str, ia_bool_seq, ia_int_int, ia_int_bool, ia_int_list, ia_int_tuple, ia_int_str, ia_int_seq, ia_str_int, ia_str_bool, ia_str_list, ia_str_tuple, ia_str_str, ia_str_seq, ia_list_int, ia_list_bool, ia_list_list, ia_list_tuple, ia_list_str, ia_list_seq, ia_tuple_int, ia_tuple_bool, ia_tuple_list, ia_tuple_tuple, ia_tuple_str, ia_tuple_seq, mLst_ap, mTup_ap, mYes_ap, frz, frzAll, peek, res1, resAll, stoAll, argOf, argsOf, bors, wback, outAt, outsFrom, ownsStay, retv, wipeF, unwipe, sto, isNone, tyD, cY, cMul, cMod, cDiv, cPow, Cell.data, b2n, atI, ixN, fMulL], o, rfl, .inl rfl⟩
    | .dict _, o => simp [Ok] at o
    | .list ds, o =>
      simp only [Ok] at o
      obtain ⟨rs, r1, r2, r3, r4⟩ := lists_key (fun d o => IH (n := n) (by omega) o) ds o.1 o.2
      have r5 := r4 (.list ds) [] (by simp; omega)
      refine ⟨.list rs, .fre (.lst rs), ?_, ⟨by omega, r2⟩, by simp only [sz, r3], .inr ⟨_, rfl, rfl⟩⟩
      simp only [List.nil_append] at r5
      simp [b_lists, mVar_ap, mLit_ap, m2_ap, mB_ap, mAndT_ap, mOrT_ap, mNotT_ap, mAndV_ap, mOrV_ap, mNotV_ap, mIfE_ap, mNil_ap, mCons_ap, mDisp_ap, gSet_ap, gsNil_ap, gsCons_ap, gTupD_ap, mSet_ap, mAsg_ap, mPar_ap, mExpr_ap, mRet_ap, mRetN_ap, mNext_ap, mBreak_ap, mCont_ap, mSeq_ap, mIf_ap, iSeq_ap, iRan_ap, iZp_ap, mFor_ap, mWhile_ap, mCall_ap, mkD_ap, mLc_ap, fI_ap, fAdd_ap, fSub_ap, fMul_ap, fMod_ap, fDiv_ap, fPow_ap, fLt_ap, fLe_ap, fGt_ap, fGe_ap, fIsN_ap, fNotN_ap, fIsB_ap, fIx_ap, fAddX_ap, fSubX_ap, fMulX_ap, m1_ap, fNeg_ap, mB1_ap, fLen_ap, fAbs_ap, fInt_ap, fMin2_ap, fMax2_ap, fList_ap, fTuple_ap, fStr_ap, mMt_ap, mMtZ_ap, fAppend_ap, fInsert_ap, fPopAt_ap, oNone_ap, oSome_ap, mSl_ap, gIx_ap, mIsi_ap, fEqX_ap, fNeX_ap, fAll_ap, fAny_ap, fSum_ap, fSorted_ap, fBest_ap, fIdx_ap, fRepr_ap, mPermA_ap, fBack_ap, gSplice_ap, mSortSet_ap, fMulY_ap, mTupRan_ap, fIsX_ap, ia_none_int, ia_none_bool, ia_none_list, ia_none_tuple, ia_none_str, ia_none_seq, ia_bool_int, ia_bool_bool, ia_bool_list, ia_bool_tuple, ia_bool_str, ia_bool_seq, ia_int_int, ia_int_bool, ia_int_list, ia_int_tuple, ia_int_str, ia_int_seq, ia_str_int, ia_str_bool, ia_str_list, ia_str_tuple, ia_str_str, ia_str_seq, ia_list_int, ia_list_bool, ia_list_list, ia_list_tuple, ia_list_str, ia_list_seq, ia_tuple_int, ia_tuple_bool, ia_tuple_list, ia_tuple_tuple, ia_tuple_str, ia_tuple_seq, mLst_ap, mTup_ap, mYes_ap, frz, frzAll, peek, res1, resAll, stoAll, argOf, argsOf, bors, wback, outAt, outsFrom, ownsStay, retv, wipeF, unwipe, sto, isNone, tyD, cY, cMul, cMod, cDiv, cPow, Cell.data, b2n, atI, ixN, fMulL, r5]
    | .tuple ds, o =>
      simp only [Ok] at o
      obtain ⟨rs, r1, r2, r3, r4⟩ := lists_key (fun d o => IH (n := n) (by omega) o) ds o.1 o.2
      have r5 := r4 (.tuple ds) [] (by simp; omega)
      refine ⟨.list rs, .fre (.lst rs), ?_, ⟨by omega, r2⟩, by simp only [sz, r3], .inr ⟨_, rfl, rfl⟩⟩
      simp only [List.nil_append] at r5
      simp [b_lists, mVar_ap, mLit_ap, m2_ap, mB_ap, mAndT_ap, mOrT_ap, mNotT_ap, mAndV_ap, mOrV_ap, mNotV_ap, mIfE_ap, mNil_ap, mCons_ap, mDisp_ap, gSet_ap, gsNil_ap, gsCons_ap, gTupD_ap, mSet_ap, mAsg_ap, mPar_ap, mExpr_ap, mRet_ap, mRetN_ap, mNext_ap, mBreak_ap, mCont_ap, mSeq_ap, mIf_ap, iSeq_ap, iRan_ap, iZp_ap, mFor_ap, mWhile_ap, mCall_ap, mkD_ap, mLc_ap, fI_ap, fAdd_ap, fSub_ap, fMul_ap, fMod_ap, fDiv_ap, fPow_ap, fLt_ap, fLe_ap, fGt_ap, fGe_ap, fIsN_ap, fNotN_ap, fIsB_ap, fIx_ap, fAddX_ap, fSubX_ap, fMulX_ap, m1_ap, fNeg_ap, mB1_ap, fLen_ap, fAbs_ap, fInt_ap, fMin2_ap, fMax2_ap, fList_ap, fTuple_ap, fStr_ap, mMt_ap, mMtZ_ap, fAppend_ap, fInsert_ap, fPopAt_ap, oNone_ap, oSome_ap, mSl_ap, gIx_ap, mIsi_ap, fEqX_ap, fNeX_ap, fAll_ap, fAny_ap, fSum_ap, fSorted_ap, fBest_ap, fIdx_ap, fRepr_ap, mPermA_ap, fBack_ap, gSplice_ap, mSortSet_ap, fMulY_ap, mTupRan_ap, fIsX_ap, ia_none_int, ia_none_bool, ia_none_list, ia_none_tuple, ia_none_str, ia_none_seq, ia_bool_int, ia_bool_bool, ia_bool_list, ia_bool_tuple, ia_bool_str, ia_bool_seq, ia_int_int, ia_int_bool, ia_int_list, ia_int_tuple, ia_int_str, ia_int_seq, ia_str_int, ia_str_bool, ia_str_list, ia_str_tuple, ia_str_str, ia_str_seq, ia_list_int, ia_list_bool, ia_list_list, ia_list_tuple, ia_list_str, ia_list_seq, ia_tuple_int, ia_tuple_bool, ia_tuple_list, ia_tuple_tuple, ia_tuple_str, ia_tuple_seq, mLst_ap, mTup_ap, mYes_ap, frz, frzAll, peek, res1, resAll, stoAll, argOf, argsOf, bors, wback, outAt, outsFrom, ownsStay, retv, wipeF, unwipe, sto, isNone, tyD, cY, cMul, cMod, cDiv, cPow, Cell.data, b2n, atI, ixN, fMulL, r5]
end Lk01

namespace Lk01
open PySem PySem.Spec PyProof.Rows L2 Rf
theorem mSeq_nx {m k : MS} {fm fm1 : Fm} (h : m fm = some (.nx, fm1)) : mSeq m k fm = k fm1 := by simp only [mSeq_ap, h]
theorem mSeq_rt {m k : MS} {fm fm1 : Fm} {v : SV} (h : m fm = some (.rt v, fm1)) : mSeq m k fm = some (.rt v, fm1) := by simp only [mSeq_ap, h]
def K0a : List PyData := [.none, .bool true, .bool false, .int 0, .int 1, .int (-1), .str "", .str "swap", .str "take", .tuple [], .list [], .tuple [.int 0], .list [.int 1], .tuple [.tuple []], .tuple [.int 0, .int 1]]
def K0b : List PyData := [.tuple [.int 1, .int 1], .tuple [.str "swap", .int 0, .int 1]]
theorem okStr (s : String) (h : s.length ≤ 10) (l b k : Nat) : Ok l b k (.str s) ∧ sz (.str (Str.ofString s)) ≤ 110 := by
  refine ⟨?_, ?_⟩
  · simp only [Ok]
    exact ⟨strOk_text s, by rw [PySem.ofString_length]; omega⟩
  · simp only [sz]; rw [PySem.ofString_length]; omega
theorem K0_ok {l b h : Nat} (hl : 3 ≤ l) (hb : 2 ≤ b) : ∀ x ∈ K0a ++ K0b, Ok l b (h + 2) x ∧ sz x ≤ 500 := by
  intro x m
  have e1 := okStr "" (by decide) l b
  have e2 := okStr "swap" (by decide) l b
  have e3 := okStr "take" (by decide) l b
  have i0 : (0 : Int).natAbs = 0 := rfl
  simp only [K0a, K0b, List.cons_append, List.nil_append, List.mem_cons, List.not_mem_nil, or_false] at m
  rcases m with rfl | rfl | rfl | rfl | rfl | rfl | rfl | rfl | rfl | rfl | rfl | rfl | rfl | rfl | rfl | rfl | rfl
  case inr.inr.inr.inr.inr.inr.inl => exact ⟨(e1 _).1, Nat.le_trans (e1 0).2 (by decide)⟩
  case inr.inr.inr.inr.inr.inr.inr.inl => exact ⟨(e2 _).1, Nat.le_trans (e2 0).2 (by decide)⟩
  case inr.inr.inr.inr.inr.inr.inr.inr.inl => exact ⟨(e3 _).1, Nat.le_trans (e3 0).2 (by decide)⟩
  case inr.inr.inr.inr.inr.inr.inr.inr.inr.inr.inr.inr.inr.inr.inr.inr =>
    refine ⟨⟨by simpa using hl, ?_⟩, ?_⟩
    · intro x m
      simp at m
      rcases m with rfl | rfl | rfl
      · exact (e2 _).1
      · simp [Ok]; omega
      · simp [Ok]; omega
    · have := (e2 0).2
      simp only [sz, szA] at this ⊢; omega
  all_goals simp [Ok, sz, szA]
  all_goals omega
theorem repD_mem {k : Int} {x : PyData} {ds : List PyData} (h : x ∈ repD k ds) : x ∈ ds := by
  simp only [repD, List.mem_flatten, List.mem_replicate] at h
  obtain ⟨l, ⟨_, rfl⟩, h⟩ := h; exact h
theorem repD_len (ds : List PyData) : (repD 2 ds).length = ds.length * 2 := by simp [repD]; omega
theorem cut_mem {x : PyData} {ds : List PyData} {lo hi : Option Int} (h : x ∈ Rf.cutD ds lo hi) : x ∈ ds := List.mem_of_mem_drop (List.mem_of_mem_take h)
theorem cut_len (ds : List PyData) (lo hi : Option Int) : (Rf.cutD ds lo hi).length ≤ ds.length := by simp [Rf.cutD]; omega
theorem cut_sz (ds : List PyData) (lo hi : Option Int) : szA (Rf.cutD ds lo hi) ≤ szA ds := Nat.le_trans (szA_take _ _) (szA_drop _ _)
/-- the tail of odd: one of what slot 2 holds -/
theorem odd_tail {n : Nat} (hn : 2 ≤ n) {C : Int} {s : S0} (hs : Bx C s) (hC : C ≤ 1000000000) (d : PyData) (ds : List PyData) (h0 : 0 < ds.length) (h1 : ds.length ≤ 1000) :
    ∃ x s', x ∈ ds ∧ Bx (C + 1) s' ∧ mRet (mCall (D_pick n) (mCons (mVar 0) (mCons (mVar 2) mNil))) [some s, some (.dat d), some (.own (.lst ds))] = some (.rt (.dat x), [some s', some (.dat d), some (.own (.lst ds))]) := by
  obtain ⟨x, s', m, e1, e2⟩ := pick_ok (n := n) hn (t := .own (.lst ds)) (.inl rfl) hs hC h0 h1
  obtain ⟨xs, rfl⟩ := hs.own
  refine ⟨x, s', m, e1, ?_⟩
  simp [mVar_ap, mLit_ap, m2_ap, mB_ap, mAndT_ap, mOrT_ap, mNotT_ap, mAndV_ap, mOrV_ap, mNotV_ap, mIfE_ap, mNil_ap, mCons_ap, mDisp_ap, gSet_ap, gsNil_ap, gsCons_ap, gTupD_ap, mSet_ap, mAsg_ap, mPar_ap, mExpr_ap, mRet_ap, mRetN_ap, mNext_ap, mBreak_ap, mCont_ap, mSeq_ap, mIf_ap, iSeq_ap, iRan_ap, iZp_ap, mFor_ap, mWhile_ap, mCall_ap, mkD_ap, mLc_ap, fI_ap, fAdd_ap, fSub_ap, fMul_ap, fMod_ap, fDiv_ap, fPow_ap, fLt_ap, fLe_ap, fGt_ap, fGe_ap, fIsN_ap, fNotN_ap, fIsB_ap, fIx_ap, fAddX_ap, fSubX_ap, fMulX_ap, m1_ap, fNeg_ap, mB1_ap, fLen_ap, fAbs_ap, fInt_ap, fMin2_ap, fMax2_ap, fList_ap, fTuple_ap, fStr_ap, mMt_ap, mMtZ_ap, fAppend_ap, fInsert_ap, fPopAt_ap, oNone_ap, oSome_ap, mSl_ap, gIx_ap, mIsi_ap, fEqX_ap, fNeX_ap, fAll_ap, fAny_ap, fSum_ap, fSorted_ap, fBest_ap, fIdx_ap, fRepr_ap, mPermA_ap, fBack_ap, gSplice_ap, mSortSet_ap, fMulY_ap, mTupRan_ap, fIsX_ap, ia_none_int, ia_none_bool, ia_none_list, ia_none_tuple, ia_none_str, ia_none_seq, ia_bool_int, ia_bool_bool, ia_bool_list, ia_bool_tuple, ia_bool_str, ia_bool_seq, ia_int_int, ia_int_bool, ia_int_list, ia_int_tuple, ia_int_str, ia_int_seq, ia_str_int, ia_str_bool, ia_str_list, ia_str_tuple, ia_str_str, ia_str_seq, ia_list_int, ia_list_bool, ia_list_list, ia_list_tuple, ia_list_str, ia_list_seq, ia_tuple_int, ia_tuple_bool, ia_tuple_list, ia_tuple_tuple, ia_tuple_str, ia_tuple_seq, mLst_ap, mTup_ap, mYes_ap, frz, frzAll, peek, res1, resAll, stoAll, argOf, argsOf, bors, wback, outAt, outsFrom, ownsStay, retv, wipeF, unwipe, sto, isNone, tyD, cY, cMul, cMod, cDiv, cPow, Cell.data, b2n, fMulL, e2]
theorem odd_ok {n l b h : Nat} (hn : 3 ≤ n) {C : Int} {s : S0} {d : PyData} (hs : Bx C s) (hC : C ≤ 1000000000) (o : Ok l b h d) (hl : 3 ≤ l) (hl2 : l ≤ 1000) (hb : 2 ≤ b) (hb2 : b ≤ 10 ^ 50) :
    ∃ x s', D_odd n [s, .dat d] = some (.dat x, [s', .dat d]) ∧ Bx (C + 1) s' ∧ Ok l (b + 1) (h + 2) x ∧ sz x ≤ sz d + 1000 := by
  obtain ⟨n, rfl⟩ : ∃ m, n = m + 1 := ⟨n - 1, by omega⟩
  rw [e_odd]
  -- how it ends, from the list that slot 2 holds
  have fin : ∀ (es : List PyData), es.length ≤ 900 → (∀ x ∈ es, Ok l (b + 1) (h + 2) x ∧ sz x ≤ sz d + 1000) → (mSeq (mIf (mB (mIsi ["int"] (mVar 1))) (mSet 2 (m2 fAddX (mVar 2) (m2 fMulY (mLst (mCons (m2 fAddX (mVar 1) (mLit (.int 1))) (mCons (m2 fSubX (mVar 1) (mLit (.int 1))) (mCons (m2 fSubX (mLit (.int 0)) (mVar 1)) (mCons (mB1 fStr (mCons (mVar 1) mNil)) (mCons (m2 fEqX (mVar 1) (mLit (.int 1))) mNil)))))) (mLit (.int 2))))) mNext)
    (mSeq (mIf (mB (mIsi ["list", "tuple"] (mVar 1))) (mSet 2 (m2 fAddX (mVar 2) (m2 fMulY (mLst (mCons (mB1 fList (mCons (mVar 1) mNil)) (mCons (mB1 fTuple (mCons (mVar 1) mNil)) (mCons (m1 fBack (mVar 1)) (mCons (mSl (mVar 1) (oSome (mLit (.int 1))) oNone) (mCons (mSl (mVar 1) oNone (oSome (m1 fNeg (mLit (.int 1))))) mNil)))))) (mLit (.int 2))))) mNext)
    (mRet (mCall (D_pick n) (mCons (mVar 0) (mCons (mVar 2) mNil)))))) [some s, some (.dat d), some (.own (.lst (K0a ++ K0b)))] = mRet (mCall (D_pick n) (mCons (mVar 0) (mCons (mVar 2) mNil))) [some s, some (.dat d), some (.own (.lst (K0a ++ K0b ++ es)))] →
      ∃ x s', mkD 2 3 [0, 1] (b_odd n) [s, .dat d] = some (.dat x, [s', .dat d]) ∧ Bx (C + 1) s' ∧ Ok l (b + 1) (h + 2) x ∧ sz x ≤ sz d + 1000 := by
    intro es he hx e
    have h17 : (K0a ++ K0b).length = 17 := rfl
    obtain ⟨x, s', m, e1, e2⟩ := odd_tail (n := n) (by omega) hs hC d (K0a ++ K0b ++ es) (by rw [List.length_append, h17]; omega) (by rw [List.length_append, h17]; omega)
    refine ⟨x, s', ?_, e1, ?_⟩
    · have st1 : mSet 2 (mLst (mCons (mLit .none) (mCons (mLit (.bool true)) (mCons (mLit (.bool false)) (mCons (mLit (.int 0)) (mCons (mLit (.int 1)) (mCons (m1 fNeg (mLit (.int 1))) (mCons (mLit (.str "")) (mCons (mLit (.str "swap")) (mCons (mLit (.str "take")) (mCons (mTup mNil) (mCons (mLst mNil) (mCons (mTup (mCons (mLit (.int 0)) mNil)) (mCons (mLst (mCons (mLit (.int 1)) mNil)) (mCons (mTup (mCons (mTup mNil) mNil)) (mCons (mTup (mCons (mLit (.int 0)) (mCons (mLit (.int 1)) mNil))) mNil)))))))))))))))) [some s, some (.dat d), none] = some (.nx, [some s, some (.dat d), some (.own (.lst K0a))]) := by
        simp [mVar_ap, mLit_ap, m2_ap, mB_ap, mAndT_ap, mOrT_ap, mNotT_ap, mAndV_ap, mOrV_ap, mNotV_ap, mIfE_ap, mNil_ap, mCons_ap, mDisp_ap, gSet_ap, gsNil_ap, gsCons_ap, gTupD_ap, mSet_ap, mAsg_ap, mPar_ap, mExpr_ap, mRet_ap, mRetN_ap, mNext_ap, mBreak_ap, mCont_ap, mSeq_ap, mIf_ap, iSeq_ap, iRan_ap, iZp_ap, mFor_ap, mWhile_ap, mCall_ap, mkD_ap, mLc_ap, fI_ap, fAdd_ap, fSub_ap, fMul_ap, fMod_ap, fDiv_ap, fPow_ap, fLt_ap, fLe_ap, fGt_ap, fGe_ap, fIsN_ap, fNotN_ap, fIsB_ap, fIx_ap, fAddX_ap, fSubX_ap, fMulX_ap, m1_ap, fNeg_ap, mB1_ap, fLen_ap, fAbs_ap, fInt_ap, fMin2_ap, fMax2_ap, fList_ap, fTuple_ap, fStr_ap, mMt_ap, mMtZ_ap, fAppend_ap, fInsert_ap, fPopAt_ap, oNone_ap, oSome_ap, mSl_ap, gIx_ap, mIsi_ap, fEqX_ap, fNeX_ap, fAll_ap, fAny_ap, fSum_ap, fSorted_ap, fBest_ap, fIdx_ap, fRepr_ap, mPermA_ap, fBack_ap, gSplice_ap, mSortSet_ap, fMulY_ap, mTupRan_ap, fIsX_ap, ia_none_int, ia_none_bool, ia_none_list, ia_none_tuple, ia_none_str, ia_none_seq, ia_bool_int, ia_bool_bool, ia_bool_list, ia_bool_tuple, ia_bool_str, ia_bool_seq, ia_int_int, ia_int_bool, ia_int_list, ia_int_tuple, ia_int_str, ia_int_seq, ia_str_int, ia_str_bool, ia_str_list, ia_str_tuple, ia_str_str, ia_str_seq, ia_list_int, ia_list_bool, ia_list_list, ia_list_tuple, ia_list_str, ia_list_seq, ia_tuple_int, ia_tuple_bool, ia_tuple_list, ia_tuple_tuple, ia_tuple_str, ia_tuple_seq, mLst_ap, mTup_ap, mYes_ap, frz, frzAll, peek, res1, resAll, stoAll, argOf, argsOf, bors, wback, outAt, outsFrom, ownsStay, retv, wipeF, unwipe, sto, isNone, tyD, cY, cMul, cMod, cDiv, cPow, Cell.data, b2n, atI, ixN, fMulL, K0a, sizeLine_v]
      have st2 : mSet 2 (m2 fAddX (mVar 2) (mLst (mCons (mTup (mCons (mLit (.int 1)) (mCons (mLit (.int 1)) mNil))) (mCons (mTup (mCons (mLit (.str "swap")) (mCons (mLit (.int 0)) (mCons (mLit (.int 1)) mNil)))) mNil)))) [some s, some (.dat d), some (.own (.lst K0a))] = some (.nx, [some s, some (.dat d), some (.own (.lst (K0a ++ K0b)))]) := by
        have : K0a.length = 15 := rfl
        simp [mVar_ap, mLit_ap, m2_ap, mB_ap, mAndT_ap, mOrT_ap, mNotT_ap, mAndV_ap, mOrV_ap, mNotV_ap, mIfE_ap, mNil_ap, mCons_ap, mDisp_ap, gSet_ap, gsNil_ap, gsCons_ap, gTupD_ap, mSet_ap, mAsg_ap, mPar_ap, mExpr_ap, mRet_ap, mRetN_ap, mNext_ap, mBreak_ap, mCont_ap, mSeq_ap, mIf_ap, iSeq_ap, iRan_ap, iZp_ap, mFor_ap, mWhile_ap, mCall_ap, mkD_ap, mLc_ap, fI_ap, fAdd_ap, fSub_ap, fMul_ap, fMod_ap, fDiv_ap, fPow_ap, fLt_ap, fLe_ap, fGt_ap, fGe_ap, fIsN_ap, fNotN_ap, fIsB_ap, fIx_ap, fAddX_ap, fSubX_ap, fMulX_ap, m1_ap, fNeg_ap, mB1_ap, fLen_ap, fAbs_ap, fInt_ap, fMin2_ap, fMax2_ap, fList_ap, fTuple_ap, fStr_ap, mMt_ap, mMtZ_ap, fAppend_ap, fInsert_ap, fPopAt_ap, oNone_ap, oSome_ap, mSl_ap, gIx_ap, mIsi_ap, fEqX_ap, fNeX_ap, fAll_ap, fAny_ap, fSum_ap, fSorted_ap, fBest_ap, fIdx_ap, fRepr_ap, mPermA_ap, fBack_ap, gSplice_ap, mSortSet_ap, fMulY_ap, mTupRan_ap, fIsX_ap, ia_none_int, ia_none_bool, ia_none_list, ia_none_tuple, ia_none_str, ia_none_seq, ia_bool_int, ia_bool_bool, ia_bool_list, ia_bool_tuple, ia_bool_str, ia_bool_seq, ia_int_int, ia_int_bool, ia_int_list, ia_int_tuple, ia_int_str, ia_int_seq, ia_str_int, ia_str_bool, ia_str_list, ia_str_tuple, ia_str_str, ia_str_seq, ia_list_int, ia_list_bool, ia_list_list, ia_list_tuple, ia_list_str, ia_list_seq, ia_tuple_int, ia_tuple_bool, ia_tuple_list, ia_tuple_tuple, ia_tuple_str, ia_tuple_seq, mLst_ap, mTup_ap, mYes_ap, frz, frzAll, peek, res1, resAll, stoAll, argOf, argsOf, bors, wback, outAt, outsFrom, ownsStay, retv, wipeF, unwipe, sto, isNone, tyD, cY, cMul, cMod, cDiv, cPow, Cell.data, b2n, atI, ixN, fMulL, K0b, sizeLine_v, this]
      have whole : b_odd n [some s, some (.dat d), none] = some (.rt (.dat x), [some s', some (.dat d), some (.own (.lst (K0a ++ K0b ++ es)))]) := by
        unfold b_odd
        rw [mSeq_nx st1, mSeq_nx st2, e, e2]
      rw [mkD_ap]
      simp only [List.length_cons, List.length_nil, List.map_cons, List.map_nil, List.replicate, List.cons_append, List.nil_append, ↓reduceIte, Nat.reduceAdd, Nat.reduceSub, whole]
      simp [retv, outsFrom, outAt]
    · rcases List.mem_append.1 m with m | m
      · have := K0_ok (l := l) (b := b + 1) (h := h) hl (by omega) x m
        exact ⟨this.1, by omega⟩
      · exact hx x m
  have h17 : (K0a ++ K0b).length = 17 := rfl
  have num : ∀ i : Int, i.natAbs < b → (d = .int i) → ∀ x ∈ [PyData.int (i + 1), .int (i - 1), .int (0 - i), .str (toString i), .bool (decide (i = 1))], Ok l (b + 1) (h + 2) x ∧ sz x ≤ sz d + 1000 := by
    intro i hi e x m
    simp only [List.mem_cons, List.not_mem_nil, or_false] at m
    rcases m with rfl | rfl | rfl | rfl | rfl
    · simp only [Ok, sz]; omega
    · simp only [Ok, sz]; omega
    · simp only [Ok, sz]; omega
    · have := len_text hi hb2
      simp only [Ok, sz]
      exact ⟨⟨strOk_text _, by omega⟩, by omega⟩
    · exact ⟨trivial, by simp only [sz]; omega⟩
  have seq : ∀ ds : List PyData, ds.length ≤ l → (∀ x ∈ ds, Ok l b (h - 1) x) → 1 ≤ h → sz d = szA ds + 10 → ∀ y, (y = PyData.list ds ∨ y = .tuple ds ∨ y = .list ds.reverse ∨ y = .tuple ds.reverse ∨ (∃ lo hi, y = .list (Rf.cutD ds lo hi)) ∨ (∃ lo hi, y = .tuple (Rf.cutD ds lo hi))) → Ok l (b + 1) (h + 2) y ∧ sz y ≤ sz d + 1000 := by
    intro ds h1 h2 h3 h4 y hy
    have okk : ∀ es : List PyData, es.length ≤ ds.length → (∀ x ∈ es, x ∈ ds) → (Ok l (b + 1) (h + 2) (.list es) ∧ Ok l (b + 1) (h + 2) (.tuple es)) := fun es q1 q2 =>
      ⟨⟨by omega, fun x m => (h2 x (q2 x m)).mono (Nat.le_refl _) (by omega) (by omega)⟩, ⟨by omega, fun x m => (h2 x (q2 x m)).mono (Nat.le_refl _) (by omega) (by omega)⟩⟩
    rcases hy with rfl | rfl | rfl | rfl | ⟨lo, hi, rfl⟩ | ⟨lo, hi, rfl⟩
    · exact ⟨(okk ds (Nat.le_refl _) fun _ m => m).1, by simp only [sz]; omega⟩
    · exact ⟨(okk ds (Nat.le_refl _) fun _ m => m).2, by simp only [sz]; omega⟩
    · exact ⟨(okk ds.reverse (by simp) fun _ m => by simpa using m).1, by simp only [sz, szA_rev]; omega⟩
    · exact ⟨(okk ds.reverse (by simp) fun _ m => by simpa using m).2, by simp only [sz, szA_rev]; omega⟩
    · have := cut_sz ds lo hi
      exact ⟨(okk _ (cut_len ds lo hi) fun _ m => cut_mem m).1, by simp only [sz]; omega⟩
    · have := cut_sz ds lo hi
      exact ⟨(okk _ (cut_len ds lo hi) fun _ m => cut_mem m).2, by simp only [sz]; omega⟩
  match h, d, o with
  | h, .none, o => exact fin [] (by simp) (by simp) (by simp [mVar_ap, mLit_ap, m2_ap, mB_ap, mAndT_ap, mOrT_ap, mNotT_ap, mAndV_ap, mOrV_ap, mNotV_ap, mIfE_ap, mNil_ap, mCons_ap, mDisp_ap, gSet_ap, gsNil_ap, gsCons_ap, gTupD_ap, mSet_ap, mAsg_ap, mPar_ap, mExpr_ap, mRet_ap, mRetN_ap, mNext_ap, mBreak_ap, mCont_ap, mSeq_ap, mIf_ap, iSeq_ap, iRan_ap, iZp_ap, mFor_ap, mWhile_ap, mCall_ap, mkD_ap, mLc_ap, fI_ap, fAdd_ap, fSub_ap, fMul_ap, fMod_ap, fDiv_ap, fPow_ap, fLt_ap, fLe_ap, fGt_ap, fGe_ap, fIsN_ap, fNotN_ap, fIsB_ap, fIx_ap, fAddX_ap, fSubX_ap, fMulX_ap, m1_ap, fNeg_ap, mB1_ap, fLen_ap, fAbs_ap, fInt_ap, fMin2_ap, fMax2_ap, fList_ap, fTuple_ap, fStr_ap, mMt_ap, mMtZ_ap, fAppend_ap, fInsert_ap, fPopAt_ap, oNone_ap, oSome_ap, mSl_ap, gIx_ap, mIsi_ap, fEqX_ap, fNeX_ap, fAll_ap, fAny_ap, fSum_ap, fSorted_ap, fBest_ap, fIdx_ap, fRepr_ap, mPermA_ap, fBack_ap, gSplice_ap, mSortSet_ap, fMulY_ap, mTupRan_ap, fIsX_ap, ia_none_int, ia_none_bool, ia_none_list, ia_none_tuple, ia_none_str, ia_none_seq, ia_bool_int, ia_bool_bool, ia_bool_list, ia_bool_tuple, ia_bool_str, ia_bool_seq, ia_int_int, ia_int_bool, ia_int_list, ia_int_tuple, ia_int_str, ia_int_seq, ia_str_int, ia_str_bool, ia_str_list, ia_str_tuple, ia_str_str, ia_str_seq, ia_list_int, ia_list_bool, ia_list_list, ia_list_tuple, ia_list_str, ia_list_seq, ia_tuple_int, ia_tuple_bool, ia_tuple_list, ia_tuple_tuple, ia_tuple_str, ia_tuple_seq, mLst_ap, mTup_ap, mYes_ap, frz, frzAll, peek, res1, resAll, stoAll, argOf, argsOf, bors, wback, outAt, outsFrom, ownsStay, retv, wipeF, unwipe, sto, isNone, tyD, cY, cMul, cMod, cDiv, cPow, Cell.data, b2n, atI, ixN, fMulL])
  | h, .str _, o => exact fin [] (by simp) (by simp) (by simp [mVar_ap, mLit_ap, m2_ap, mB_ap, mAndT_ap, mOrT_ap, mNotT_ap, mAndV_ap, mOrV_ap, mNotV_ap, mIfE_ap, mNil_ap, mCons_ap, mDisp_ap, gSet_ap, gsNil_ap, gsCons_ap, gTupD_ap, mSet_ap, mAsg_ap, mPar_ap, mExpr_ap, mRet_ap, mRetN_ap, mNext_ap, mBreak_ap, mCont_ap, mSeq_ap, mIf_ap, iSeq_ap, iRan_ap, iZp_ap, mFor_ap, mWhile_ap, mCall_ap, mkD_ap, mLc_ap, fI_ap, fAdd_ap, fSub_ap, fMul_ap, fMod_ap, fDiv_ap, fPow_ap, fLt_ap, fLe_ap, fGt_ap, fGe_ap, fIsN_ap, fNotN_ap, fIsB_ap, fIx_ap, fAddX_ap, fSubX_ap, fMulX_ap, m1_ap, fNeg_ap, mB1_ap, fLen_ap, fAbs_ap, fInt_ap, fMin2_ap, fMax2_ap, fList_ap, fTuple_ap, fStr_ap, mMt_ap, mMtZ_ap, fAppend_ap, fInsert_ap, fPopAt_ap, oNone_ap, oSome_ap, mSl_ap, gIx_ap, mIsi_ap, fEqX_ap, fNeX_ap, fAll_ap, fAny_ap, fSum_ap, fSorted_ap, fBest_ap, fIdx_ap, fRepr_ap, mPermA_ap, fBack_ap, gSplice_ap, mSortSet_ap, fMulY_ap, mTupRan_ap, fIsX_ap, ia_none_int, ia_none_bool, ia_none_list, ia_none_tuple, ia_none_str, ia_none_seq, ia_bool_int, ia_bool_bool, ia_bool_list, ia_bool_tuple, ia_bool_str, ia_bool_seq, ia_int_int, ia_int_bool, ia_int_list, ia_int_tuple, ia_int_str, ia_int_seq, ia_str_int, ia_str_bool, ia_str_list, ia_str_tuple, ia_str_str, ia_str_seq, ia_list_int, ia_list_bool, ia_list_list, ia_list_tuple, ia_list_str, ia_list_seq, ia_tuple_int, ia_tuple_bool, ia_tuple_list, ia_tuple_tuple, ia_tuple_str, ia_tuple_seq, mLst_ap, mTup_ap, mYes_ap, frz, frzAll, peek, res1, resAll, stoAll, argOf, argsOf, bors, wback, outAt, outsFrom, ownsStay, retv, wipeF, unwipe, sto, isNone, tyD, cY, cMul, cMod, cDiv, cPow, Cell.data, b2n, atI, ixN, fMulL])
  | h, .bool t, o =>
    refine fin (repD 2 [.int (b2n t + 1), .int (b2n t - 1), .int (0 - b2n t), .str (if t then "True" else "False"), .bool (decide (b2n t = 1))]) (by rw [repD_len]; simp) (fun x m => ?_) ?_
    · have m := repD_mem m
      have e1 := okStr "True" (by decide) l (b + 1) (h + 2)
      have e2 := okStr "False" (by decide) l (b + 1) (h + 2)
      simp only [List.mem_cons, List.not_mem_nil, or_false] at m
      rcases m with rfl | rfl | rfl | rfl | rfl
      · cases t <;> simp [Ok, sz, b2n] <;> omega
      · cases t <;> simp [Ok, sz, b2n] <;> omega
      · cases t <;> simp [Ok, sz, b2n] <;> omega
      · cases t
        · exact ⟨e2.1, Nat.le_trans e2.2 (by omega)⟩
        · exact ⟨e1.1, Nat.le_trans e1.2 (by omega)⟩
      · exact ⟨trivial, by simp only [sz]; omega⟩
    · have hq := h17
      cases t <;> simp [mVar_ap, mLit_ap, m2_ap, mB_ap, mAndT_ap, mOrT_ap, mNotT_ap, mAndV_ap, mOrV_ap, mNotV_ap, mIfE_ap, mNil_ap, mCons_ap, mDisp_ap, gSet_ap, gsNil_ap, gsCons_ap, gTupD_ap, mSet_ap, mAsg_ap, mPar_ap, mExpr_ap, mRet_ap, mRetN_ap, mNext_ap, mBreak_ap, mCont_ap, mSeq_ap, mIf_ap, iSeq_ap, iRan_ap, iZp_ap, mFor_ap, mWhile_ap, mCall_ap, mkD_ap, mLc_ap, fI_ap, fAdd_ap, fSub_ap, fMul_ap, fMod_ap, fDiv_ap, fPow_ap, fLt_ap, fLe_ap, fGt_ap, fGe_ap, fIsN_ap, fNotN_ap, fIsB_ap, fIx_ap, fAddX_ap, fSubX_ap, fMulX_ap, m1_ap, fNeg_ap, mB1_ap, fLen_ap, fAbs_ap, fInt_ap, fMin2_ap, fMax2_ap, fList_ap, fTuple_ap, fStr_ap, mMt_ap, mMtZ_ap, fAppend_ap, fInsert_ap, fPopAt_ap, oNone_ap, oSome_ap, mSl_ap, gIx_ap, mIsi_ap, fEqX_ap, fNeX_ap, fAll_ap, fAny_ap, fSum_ap, fSorted_ap, fBest_ap, fIdx_ap, fRepr_ap, mPermA_ap, fBack_ap, gSplice_ap, mSortSet_ap, fMulY_ap, mTupRan_ap, fIsX_ap, ia_none_int, ia_none_bool, ia_none_list, ia_none_tuple, ia_none_str, ia_none_seq, ia_bool_int, ia_bool_bool, ia_bool_list, ia_bool_tuple, ia_bool_str, ia_bool_seq, ia_int_int, ia_int_bool, ia_int_list, ia_int_tuple, ia_int_str, ia_int_seq, ia_str_int, ia_str_bool, ia_str_list, ia_str_tuple, ia_str_str, ia_str_seq, ia_list_int, ia_list_bool, ia_list_list, ia_list_tuple, ia_list_str, ia_list_seq, ia_tuple_int, ia_tuple_bool, ia_tuple_list, ia_tuple_tuple, ia_tuple_str, ia_tuple_seq, mLst_ap, mTup_ap, mYes_ap, frz, frzAll, peek, res1, resAll, stoAll, argOf, argsOf, bors, wback, outAt, outsFrom, ownsStay, retv, wipeF, unwipe, sto, isNone, tyD, cY, cMul, cMod, cDiv, cPow, Cell.data, b2n, atI, ixN, fMulL, K0a, K0b, b2n, sizeLine_v, repD, shaped_bool, shaped_int, PyData.eqv]
  | h, .int i, o =>
    simp only [Ok] at o
    have hlog : i.natAbs.log2 < 1920 := by
      by_cases z : i.natAbs = 0
      · rw [z]; decide
      · exact (Nat.log2_lt z).2 (Nat.lt_of_lt_of_le (Nat.lt_of_lt_of_le o hb2) (Nat.le_trans (show 10 ^ 50 ≤ 2 ^ 200 by decide) (Nat.pow_le_pow_right (by decide) (by decide))))
    refine fin (repD 2 [.int (i + 1), .int (i - 1), .int (0 - i), .str (toString i), .bool (decide (i = 1))]) (by rw [repD_len]; simp) (fun x m => num i o rfl x (repD_mem m)) ?_
    simp [mVar_ap, mLit_ap, m2_ap, mB_ap, mAndT_ap, mOrT_ap, mNotT_ap, mAndV_ap, mOrV_ap, mNotV_ap, mIfE_ap, mNil_ap, mCons_ap, mDisp_ap, gSet_ap, gsNil_ap, gsCons_ap, gTupD_ap, mSet_ap, mAsg_ap, mPar_ap, mExpr_ap, mRet_ap, mRetN_ap, mNext_ap, mBreak_ap, mCont_ap, mSeq_ap, mIf_ap, iSeq_ap, iRan_ap, iZp_ap, mFor_ap, mWhile_ap, mCall_ap, mkD_ap, mLc_ap, fI_ap, fAdd_ap, fSub_ap, fMul_ap, fMod_ap, fDiv_ap, fPow_ap, fLt_ap, fLe_ap, fGt_ap, fGe_ap, fIsN_ap, fNotN_ap, fIsB_ap, fIx_ap, fAddX_ap, fSubX_ap, fMulX_ap, m1_ap, fNeg_ap, mB1_ap, fLen_ap, fAbs_ap, fInt_ap, fMin2_ap, fMax2_ap, fList_ap, fTuple_ap, fStr_ap, mMt_ap, mMtZ_ap, fAppend_ap, fInsert_ap, fPopAt_ap, oNone_ap, oSome_ap, mSl_ap, gIx_ap, mIsi_ap, fEqX_ap, fNeX_ap, fAll_ap, fAny_ap, fSum_ap, fSorted_ap, fBest_ap, fIdx_ap, fRepr_ap, mPermA_ap, fBack_ap, gSplice_ap, mSortSet_ap, fMulY_ap, mTupRan_ap, fIsX_ap, ia_none_int, ia_none_bool, ia_none_list, ia_none_tuple, ia_none_str, ia_none_seq, ia_bool_int, ia_bool_bool, ia_bool_list, ia_bool_tuple, ia_bool_str, ia_bool_seq, ia_int_int, ia_int_bool, ia_int_list, ia_int_tuple, ia_int_str, ia_int_seq, ia_str_int, ia_str_bool, ia_str_list, ia_str_tuple, ia_str_str, ia_str_seq, ia_list_int, ia_list_bool, ia_list_list, ia_list_tuple, ia_list_str, ia_list_seq, ia_tuple_int, ia_tuple_bool, ia_tuple_list, ia_tuple_tuple, ia_tuple_str, ia_tuple_seq, mLst_ap, mTup_ap, mYes_ap, frz, frzAll, peek, res1, resAll, stoAll, argOf, argsOf, bors, wback, outAt, outsFrom, ownsStay, retv, wipeF, unwipe, sto, isNone, tyD, cY, cMul, cMod, cDiv, cPow, Cell.data, b2n, atI, ixN, fMulL, K0a, K0b, sizeLine_v, repD, shaped_int, eqv_int, hlog]
  | 0, .dict _, o => simp [Ok] at o
  | h + 1, .dict _, o => simp [Ok] at o
  | 0, .list _, o => simp [Ok] at o
  | 0, .tuple _, o => simp [Ok] at o
  | h + 1, .list ds, o =>
    simp only [Ok] at o
    refine fin (repD 2 [.list ds, .tuple ds, .list ds.reverse, .list (Rf.cutD ds (some 1) none), .list (Rf.cutD ds none (some (-1)))]) (by rw [repD_len]; simp) (fun x m => seq ds o.1 (fun x m => (o.2 x m)) (by omega) (by simp [sz]) x ?_) ?_
    · have m := repD_mem m
      simp only [List.mem_cons, List.not_mem_nil, or_false] at m
      rcases m with rfl | rfl | rfl | rfl | rfl
      · exact .inl rfl
      · exact .inr (.inl rfl)
      · exact .inr (.inr (.inl rfl))
      · exact .inr (.inr (.inr (.inr (.inl ⟨_, _, rfl⟩))))
      · exact .inr (.inr (.inr (.inr (.inl ⟨_, _, rfl⟩))))
    · simp [mVar_ap, mLit_ap, m2_ap, mB_ap, mAndT_ap, mOrT_ap, mNotT_ap, mAndV_ap, mOrV_ap, mNotV_ap, mIfE_ap, mNil_ap, mCons_ap, mDisp_ap, gSet_ap, gsNil_ap, gsCons_ap, gTupD_ap, mSet_ap, mAsg_ap, mPar_ap, mExpr_ap, mRet_ap, mRetN_ap, mNext_ap, mBreak_ap, mCont_ap, mSeq_ap, mIf_ap, iSeq_ap, iRan_ap, iZp_ap, mFor_ap, mWhile_ap, mCall_ap, mkD_ap, mLc_ap, fI_ap, fAdd_ap, fSub_ap, fMul_ap, fMod_ap, fDiv_ap, fPow_ap, fLt_ap, fLe_ap, fGt_ap, fGe_ap, fIsN_ap, fNotN_ap, fIsB_ap, fIx_ap, fAddX_ap, fSubX_ap, fMulX_ap, m1_ap, fNeg_ap, mB1_ap, fLen_ap, fAbs_ap, fInt_ap, fMin2_ap, fMax2_ap, fList_ap, fTuple_ap, fStr_ap, mMt_ap, mMtZ_ap, fAppend_ap, fInsert_ap, fPopAt_ap, oNone_ap, oSome_ap, mSl_ap, gIx_ap, mIsi_ap, fEqX_ap, fNeX_ap, fAll_ap, fAny_ap, fSum_ap, fSorted_ap, fBest_ap, fIdx_ap, fRepr_ap, mPermA_ap, fBack_ap, gSplice_ap, mSortSet_ap, fMulY_ap, mTupRan_ap, fIsX_ap, ia_none_int, ia_none_bool, ia_none_list, ia_none_tuple, ia_none_str, ia_none_seq, ia_bool_int, ia_bool_bool, ia_bool_list, ia_bool_tuple, ia_bool_str, ia_bool_seq, ia_int_int, ia_int_bool, ia_int_list, ia_int_tuple, ia_int_str, ia_int_seq, ia_str_int, ia_str_bool, ia_str_list, ia_str_tuple, ia_str_str, ia_str_seq, ia_list_int, ia_list_bool, ia_list_list, ia_list_tuple, ia_list_str, ia_list_seq, ia_tuple_int, ia_tuple_bool, ia_tuple_list, ia_tuple_tuple, ia_tuple_str, ia_tuple_seq, mLst_ap, mTup_ap, mYes_ap, frz, frzAll, peek, res1, resAll, stoAll, argOf, argsOf, bors, wback, outAt, outsFrom, ownsStay, retv, wipeF, unwipe, sto, isNone, tyD, cY, cMul, cMod, cDiv, cPow, Cell.data, b2n, atI, ixN, fMulL, K0a, K0b, sizeLine_v, repD]
  | h + 1, .tuple ds, o =>
    simp only [Ok] at o
    refine fin (repD 2 [.list ds, .tuple ds, .tuple ds.reverse, .tuple (Rf.cutD ds (some 1) none), .tuple (Rf.cutD ds none (some (-1)))]) (by rw [repD_len]; simp) (fun x m => seq ds o.1 (fun x m => (o.2 x m)) (by omega) (by simp [sz]) x ?_) ?_
    · have m := repD_mem m
      simp only [List.mem_cons, List.not_mem_nil, or_false] at m
      rcases m with rfl | rfl | rfl | rfl | rfl
      · exact .inl rfl
      · exact .inr (.inl rfl)
      · exact .inr (.inr (.inr (.inl rfl)))
      · exact .inr (.inr (.inr (.inr (.inr ⟨_, _, rfl⟩))))
      · exact .inr (.inr (.inr (.inr (.inr ⟨_, _, rfl⟩))))
    · simp [mVar_ap, mLit_ap, m2_ap, mB_ap, mAndT_ap, mOrT_ap, mNotT_ap, mAndV_ap, mOrV_ap, mNotV_ap, mIfE_ap, mNil_ap, mCons_ap, mDisp_ap, gSet_ap, gsNil_ap, gsCons_ap, gTupD_ap, mSet_ap, mAsg_ap, mPar_ap, mExpr_ap, mRet_ap, mRetN_ap, mNext_ap, mBreak_ap, mCont_ap, mSeq_ap, mIf_ap, iSeq_ap, iRan_ap, iZp_ap, mFor_ap, mWhile_ap, mCall_ap, mkD_ap, mLc_ap, fI_ap, fAdd_ap, fSub_ap, fMul_ap, fMod_ap, fDiv_ap, fPow_ap, fLt_ap, fLe_ap, fGt_ap, fGe_ap, fIsN_ap, fNotN_ap, fIsB_ap, fIx_ap, fAddX_ap, fSubX_ap, fMulX_ap, m1_ap, fNeg_ap, mB1_ap, fLen_ap, fAbs_ap, fInt_ap, fMin2_ap, fMax2_ap, fList_ap, fTuple_ap, fStr_ap, mMt_ap, mMtZ_ap, fAppend_ap, fInsert_ap, fPopAt_ap, oNone_ap, oSome_ap, mSl_ap, gIx_ap, mIsi_ap, fEqX_ap, fNeX_ap, fAll_ap, fAny_ap, fSum_ap, fSorted_ap, fBest_ap, fIdx_ap, fRepr_ap, mPermA_ap, fBack_ap, gSplice_ap, mSortSet_ap, fMulY_ap, mTupRan_ap, fIsX_ap, ia_none_int, ia_none_bool, ia_none_list, ia_none_tuple, ia_none_str, ia_none_seq, ia_bool_int, ia_bool_bool, ia_bool_list, ia_bool_tuple, ia_bool_str, ia_bool_seq, ia_int_int, ia_int_bool, ia_int_list, ia_int_tuple, ia_int_str, ia_int_seq, ia_str_int, ia_str_bool, ia_str_list, ia_str_tuple, ia_str_str, ia_str_seq, ia_list_int, ia_list_bool, ia_list_list, ia_list_tuple, ia_list_str, ia_list_seq, ia_tuple_int, ia_tuple_bool, ia_tuple_list, ia_tuple_tuple, ia_tuple_str, ia_tuple_seq, mLst_ap, mTup_ap, mYes_ap, frz, frzAll, peek, res1, resAll, stoAll, argOf, argsOf, bors, wback, outAt, outsFrom, ownsStay, retv, wipeF, unwipe, sto, isNone, tyD, cY, cMul, cMod, cDiv, cPow, Cell.data, b2n, atI, ixN, fMulL, K0a, K0b, sizeLine_v, repD]
end Lk01

namespace Lk01
open PySem PySem.Spec PyProof.Rows L2 Rf
/-- what bent gives -/
def BtAt (l b h n : Nat) (C : Int) (s : S0) (d : PyData) : Prop := ∃ v x s', D_bent n [s, .dat d] = some (v, [s', .dat d]) ∧ Bx (C + 4 * ((h : Int) + 1)) s' ∧ Ok (l + 1) (b + 1) (h + 2) x ∧ sz x ≤ 2 * sz d + 1000 ∧ (v = .dat x ∨ ((∃ ds, d = .list ds) ∧ ∃ ds, v = .fre (.lst ds) ∧ x = .list ds))
theorem bent_odd {n l b h : Nat} (hn : 4 ≤ n) {C : Int} {s : S0} {d : PyData} (hs : Bx C s) (hC : C ≤ 100000000) (o : Ok l b h d) (hl : 3 ≤ l) (hl2 : l ≤ 900) (hb : 2 ≤ b) (hb2 : b ≤ 10 ^ 50)
    (s1 : S0) (hs1 : Bx (C + 1) s1) (e : mOrT (mNotT (mB (mIsi ["list", "tuple"] (mVar 1)))) (mOrT (mB (m2 fEqX (mB1 fLen (mCons (mVar 1) mNil)) (mLit (.int 0)))) (mB (m2 fEqX (mCall (D_take (n - 1)) (mCons (mVar 0) (mCons (mLit (.int 6)) mNil))) (mLit (.int 0))))) [some s, some (.dat d), none, none, none] = some (true, [some s1, some (.dat d), none, none, none])) : BtAt l b h n C s d := by
  obtain ⟨n, rfl⟩ : ∃ m, n = m + 1 := ⟨n - 1, by omega⟩
  obtain ⟨x, s', e1, e2, e3, e4⟩ := odd_ok (n := n) (l := l) (b := b) (h := h) (by omega) hs1 (by omega) o hl (by omega) hb hb2
  refine ⟨.dat x, x, s', ?_, e2.mono (by omega), e3.mono (by omega) (Nat.le_refl _) (Nat.le_refl _), by omega, .inl rfl⟩
  obtain ⟨q, rfl⟩ := hs1.own
  rw [e_bent, mkD_ap]
  simp only [Nat.add_sub_cancel] at e
  have whole : b_bent n [some s, some (.dat d), none, none, none] = some (.rt (.dat x), [some s', some (.dat d), none, none, none]) := by
    unfold b_bent
    refine mSeq_rt ?_
    rw [mIf_ap, e]
    simp [mVar_ap, mLit_ap, m2_ap, mB_ap, mAndT_ap, mOrT_ap, mNotT_ap, mAndV_ap, mOrV_ap, mNotV_ap, mIfE_ap, mNil_ap, mCons_ap, mDisp_ap, gSet_ap, gsNil_ap, gsCons_ap, gTupD_ap, mSet_ap, mAsg_ap, mPar_ap, mExpr_ap, mRet_ap, mRetN_ap, mNext_ap, mBreak_ap, mCont_ap, mSeq_ap, mIf_ap, iSeq_ap, iRan_ap, iZp_ap, mFor_ap, mWhile_ap, mCall_ap, mkD_ap, mLc_ap, fI_ap, fAdd_ap, fSub_ap, fMul_ap, fMod_ap, fDiv_ap, fPow_ap, fLt_ap, fLe_ap, fGt_ap, fGe_ap, fIsN_ap, fNotN_ap, fIsB_ap, fIx_ap, fAddX_ap, fSubX_ap, fMulX_ap, m1_ap, fNeg_ap, mB1_ap, fLen_ap, fAbs_ap, fInt_ap, fMin2_ap, fMax2_ap, fList_ap, fTuple_ap, fStr_ap, mMt_ap, mMtZ_ap, fAppend_ap, fInsert_ap, fPopAt_ap, oNone_ap, oSome_ap, mSl_ap, gIx_ap, mIsi_ap, fEqX_ap, fNeX_ap, fAll_ap, fAny_ap, fSum_ap, fSorted_ap, fBest_ap, fIdx_ap, fRepr_ap, mPermA_ap, fBack_ap, gSplice_ap, mSortSet_ap, fMulY_ap, mTupRan_ap, fIsX_ap, ia_none_int, ia_none_bool, ia_none_list, ia_none_tuple, ia_none_str, ia_none_seq, ia_bool_int, ia_bool_bool, ia_bool_list, ia_bool_tuple, ia_bool_str, ia_bool_seq, ia_int_int, ia_int_bool, ia_int_list, ia_int_tuple, ia_int_str, ia_int_seq, ia_str_int, ia_str_bool, ia_str_list, ia_str_tuple, ia_str_str, ia_str_seq, ia_list_int, ia_list_bool, ia_list_list, ia_list_tuple, ia_list_str, ia_list_seq, ia_tuple_int, ia_tuple_bool, ia_tuple_list, ia_tuple_tuple, ia_tuple_str, ia_tuple_seq, mLst_ap, mTup_ap, mYes_ap, frz, frzAll, peek, res1, resAll, stoAll, argOf, argsOf, bors, wback, outAt, outsFrom, ownsStay, retv, wipeF, unwipe, sto, isNone, tyD, cY, cMul, cMod, cDiv, cPow, Cell.data, b2n, fMulL, e1]
  simp only [List.length_cons, List.length_nil, List.map_cons, List.map_nil, List.replicate, List.cons_append, List.nil_append, ↓reduceIte, Nat.reduceAdd, Nat.reduceSub, whole]
  simp [retv, outsFrom, outAt]
/-- the way out of bent -/
theorem bent_end {n l b h : Nat} {C C' : Int} {s s3 : S0} {d : PyData} (b1 : MS) (ds ms : List PyData) (i j : Int)
    (hd : d = .list ds ∨ d = .tuple ds) (h1 : Bx C' s3) (hC : C' ≤ C + 4 * ((h : Int) + 1)) (m1 : ms.length ≤ l + 1) (m2 : ∀ x ∈ ms, Ok (l + 1) (b + 1) (h + 1) x) (m3 : szA ms ≤ 2 * szA ds + 1000)
    (e : b_bent n [some s, some (.dat d), none, none, none] = mRet (mIfE (mB (mIsi ["list"] (mVar 1))) (mVar 3) (mB1 fTuple (mCons (mVar 3) mNil))) [some s3, some (.dat d), some (.dat (.int i)), some (.own (.lst ms)), some (.dat (.int j))]) : BtAt l b h (n + 1) C s d := by
  obtain ⟨q, rfl⟩ := h1.own
  rcases hd with rfl | rfl
  · refine ⟨.fre (.lst ms), .list ms, _, ?_, h1.mono hC, ⟨m1, m2⟩, by simp only [sz]; omega, .inr ⟨⟨_, rfl⟩, _, rfl, rfl⟩⟩
    rw [e_bent, mkD_ap]
    simp only [List.length_cons, List.length_nil, List.map_cons, List.map_nil, List.replicate, List.cons_append, List.nil_append, ↓reduceIte, Nat.reduceAdd, Nat.reduceSub, e]
    cases s with
    | dat _ => simp [mVar_ap, mLit_ap, m2_ap, mB_ap, mAndT_ap, mOrT_ap, mNotT_ap, mAndV_ap, mOrV_ap, mNotV_ap, mIfE_ap, mNil_ap, mCons_ap, mDisp_ap, gSet_ap, gsNil_ap, gsCons_ap, gTupD_ap, mSet_ap, mAsg_ap, mPar_ap, mExpr_ap, mRet_ap, mRetN_ap, mNext_ap, mBreak_ap, mCont_ap, mSeq_ap, mIf_ap, iSeq_ap, iRan_ap, iZp_ap, mFor_ap, mWhile_ap, mCall_ap, mkD_ap, mLc_ap, fI_ap, fAdd_ap, fSub_ap, fMul_ap, fMod_ap, fDiv_ap, fPow_ap, fLt_ap, fLe_ap, fGt_ap, fGe_ap, fIsN_ap, fNotN_ap, fIsB_ap, fIx_ap, fAddX_ap, fSubX_ap, fMulX_ap, m1_ap, fNeg_ap, mB1_ap, fLen_ap, fAbs_ap, fInt_ap, fMin2_ap, fMax2_ap, fList_ap, fTuple_ap, fStr_ap, mMt_ap, mMtZ_ap, fAppend_ap, fInsert_ap, fPopAt_ap, oNone_ap, oSome_ap, mSl_ap, gIx_ap, mIsi_ap, fEqX_ap, fNeX_ap, fAll_ap, fAny_ap, fSum_ap, fSorted_ap, fBest_ap, fIdx_ap, fRepr_ap, mPermA_ap, fBack_ap, gSplice_ap, mSortSet_ap, fMulY_ap, mTupRan_ap, fIsX_ap, ia_none_int, ia_none_bool, ia_none_list, ia_none_tuple, ia_none_str, ia_none_seq, ia_bool_int, ia_bool_bool, ia_bool_list, ia_bool_tuple, ia_bool_str, ia_bool_seq, ia_int_int, ia_int_bool, ia_int_list, ia_int_tuple, ia_int_str, ia_int_seq, ia_str_int, ia_str_bool, ia_str_list, ia_str_tuple, ia_str_str, ia_str_seq, ia_list_int, ia_list_bool, ia_list_list, ia_list_tuple, ia_list_str, ia_list_seq, ia_tuple_int, ia_tuple_bool, ia_tuple_list, ia_tuple_tuple, ia_tuple_str, ia_tuple_seq, mLst_ap, mTup_ap, mYes_ap, frz, frzAll, peek, res1, resAll, stoAll, argOf, argsOf, bors, wback, outAt, outsFrom, ownsStay, retv, wipeF, unwipe, sto, isNone, tyD, cY, cMul, cMod, cDiv, cPow, Cell.data, b2n, atI, ixN, fMulL]
    | own _ => simp [mVar_ap, mLit_ap, m2_ap, mB_ap, mAndT_ap, mOrT_ap, mNotT_ap, mAndV_ap, mOrV_ap, mNotV_ap, mIfE_ap, mNil_ap, mCons_ap, mDisp_ap, gSet_ap, gsNil_ap, gsCons_ap, gTupD_ap, mSet_ap, mAsg_ap, mPar_ap, mExpr_ap, mRet_ap, mRetN_ap, mNext_ap, mBreak_ap, mCont_ap, mSeq_ap, mIf_ap, iSeq_ap, iRan_ap, iZp_ap, mFor_ap, mWhile_ap, mCall_ap, mkD_ap, mLc_ap, fI_ap, fAdd_ap, fSub_ap, fMul_ap, fMod_ap, fDiv_ap, fPow_ap, fLt_ap, fLe_ap, fGt_ap, fGe_ap, fIsN_ap, fNotN_ap, fIsB_ap, fIx_ap, fAddX_ap, fSubX_ap, fMulX_ap, m1_ap, fNeg_ap, mB1_ap, fLen_ap, fAbs_ap, fInt_ap, fMin2_ap, fMax2_ap, fList_ap, fTuple_ap, fStr_ap, mMt_ap, mMtZ_ap, fAppend_ap, fInsert_ap, fPopAt_ap, oNone_ap, oSome_ap, mSl_ap, gIx_ap, mIsi_ap, fEqX_ap, fNeX_ap, fAll_ap, fAny_ap, fSum_ap, fSorted_ap, fBest_ap, fIdx_ap, fRepr_ap, mPermA_ap, fBack_ap, gSplice_ap, mSortSet_ap, fMulY_ap, mTupRan_ap, fIsX_ap, ia_none_int, ia_none_bool, ia_none_list, ia_none_tuple, ia_none_str, ia_none_seq, ia_bool_int, ia_bool_bool, ia_bool_list, ia_bool_tuple, ia_bool_str, ia_bool_seq, ia_int_int, ia_int_bool, ia_int_list, ia_int_tuple, ia_int_str, ia_int_seq, ia_str_int, ia_str_bool, ia_str_list, ia_str_tuple, ia_str_str, ia_str_seq, ia_list_int, ia_list_bool, ia_list_list, ia_list_tuple, ia_list_str, ia_list_seq, ia_tuple_int, ia_tuple_bool, ia_tuple_list, ia_tuple_tuple, ia_tuple_str, ia_tuple_seq, mLst_ap, mTup_ap, mYes_ap, frz, frzAll, peek, res1, resAll, stoAll, argOf, argsOf, bors, wback, outAt, outsFrom, ownsStay, retv, wipeF, unwipe, sto, isNone, tyD, cY, cMul, cMod, cDiv, cPow, Cell.data, b2n, atI, ixN, fMulL]
  · refine ⟨.dat (.tuple ms), .tuple ms, _, ?_, h1.mono hC, ⟨m1, m2⟩, by simp only [sz]; omega, .inl rfl⟩
    rw [e_bent, mkD_ap]
    simp only [List.length_cons, List.length_nil, List.map_cons, List.map_nil, List.replicate, List.cons_append, List.nil_append, ↓reduceIte, Nat.reduceAdd, Nat.reduceSub, e]
    simp [mVar_ap, mLit_ap, m2_ap, mB_ap, mAndT_ap, mOrT_ap, mNotT_ap, mAndV_ap, mOrV_ap, mNotV_ap, mIfE_ap, mNil_ap, mCons_ap, mDisp_ap, gSet_ap, gsNil_ap, gsCons_ap, gTupD_ap, mSet_ap, mAsg_ap, mPar_ap, mExpr_ap, mRet_ap, mRetN_ap, mNext_ap, mBreak_ap, mCont_ap, mSeq_ap, mIf_ap, iSeq_ap, iRan_ap, iZp_ap, mFor_ap, mWhile_ap, mCall_ap, mkD_ap, mLc_ap, fI_ap, fAdd_ap, fSub_ap, fMul_ap, fMod_ap, fDiv_ap, fPow_ap, fLt_ap, fLe_ap, fGt_ap, fGe_ap, fIsN_ap, fNotN_ap, fIsB_ap, fIx_ap, fAddX_ap, fSubX_ap, fMulX_ap, m1_ap, fNeg_ap, mB1_ap, fLen_ap, fAbs_ap, fInt_ap, fMin2_ap, fMax2_ap, fList_ap, fTuple_ap, fStr_ap, mMt_ap, mMtZ_ap, fAppend_ap, fInsert_ap, fPopAt_ap, oNone_ap, oSome_ap, mSl_ap, gIx_ap, mIsi_ap, fEqX_ap, fNeX_ap, fAll_ap, fAny_ap, fSum_ap, fSorted_ap, fBest_ap, fIdx_ap, fRepr_ap, mPermA_ap, fBack_ap, gSplice_ap, mSortSet_ap, fMulY_ap, mTupRan_ap, fIsX_ap, ia_none_int, ia_none_bool, ia_none_list, ia_none_tuple, ia_none_str, ia_none_seq, ia_bool_int, ia_bool_bool, ia_bool_list, ia_bool_tuple, ia_bool_str, ia_bool_seq, ia_int_int, ia_int_bool, ia_int_list, ia_int_tuple, ia_int_str, ia_int_seq, ia_str_int, ia_str_bool, ia_str_list, ia_str_tuple, ia_str_str, ia_str_seq, ia_list_int, ia_list_bool, ia_list_list, ia_list_tuple, ia_list_str, ia_list_seq, ia_tuple_int, ia_tuple_bool, ia_tuple_list, ia_tuple_tuple, ia_tuple_str, ia_tuple_seq, mLst_ap, mTup_ap, mYes_ap, frz, frzAll, peek, res1, resAll, stoAll, argOf, argsOf, bors, wback, outAt, outsFrom, ownsStay, retv, wipeF, unwipe, sto, isNone, tyD, cY, cMul, cMod, cDiv, cPow, Cell.data, b2n, atI, ixN, fMulL]
theorem cut_two {ds : List PyData} {a : Int} (h0 : 0 ≤ a) (h1 : a.toNat < ds.length) : (Rf.cutD ds (some a) (some (a + 2))).length ≤ 2 ∧ (Rf.cutD ds (some a) (some (a + 2))).length ≤ ds.length - a.toNat := by
  have e1 : HT.sIx ds.length 0 (some a) = a.toNat := by simp only [HT.sIx]; rw [if_neg (by omega)]; omega
  have e2 : HT.sIx ds.length ds.length (some (a + 2)) ≤ a.toNat + 2 := by simp only [HT.sIx]; rw [if_neg (by omega)]; omega
  simp only [Rf.cutD, List.length_take, List.length_drop, e1]
  omega
theorem bent_ok {l b : Nat} (hl : 3 ≤ l) (hl2 : l ≤ 900) (hb : 2 ≤ b) (hb2 : b ≤ 10 ^ 50) : ∀ {h n : Nat} {d : PyData} {C : Int} {s : S0}, h ≤ 1000 → h + 4 ≤ n → Ok l b h d → Bx C s → C ≤ 10000000 + 4 * (1000 - (h : Int)) → BtAt l b h n C s d := by
  intro h
  induction h with
  | zero =>
    intro n d C s hh hn o hs hC
    obtain ⟨q, rfl⟩ := hs.own
    refine bent_odd hn hs (by omega) o hl hl2 hb hb2 _ (hs.mono (by omega)) ?_
    match d, o with
    | .none, _ => simp [mVar_ap, mLit_ap, m2_ap, mB_ap, mAndT_ap, mOrT_ap, mNotT_ap, mAndV_ap, mOrV_ap, mNotV_ap, mIfE_ap, mNil_ap, mCons_ap, mDisp_ap, gSet_ap, gsNil_ap, gsCons_ap, gTupD_ap, mSet_ap, mAsg_ap, mPar_ap, mExpr_ap, mRet_ap, mRetN_ap, mNext_ap, mBreak_ap, mCont_ap, mSeq_ap, mIf_ap, iSeq_ap, iRan_ap, iZp_ap, mFor_ap, mWhile_ap, mCall_ap, mkD_ap, mLc_ap, fI_ap, fAdd_ap, fSub_ap, fMul_ap, fMod_ap, fDiv_ap, fPow_ap, fLt_ap, fLe_ap, fGt_ap, fGe_ap, fIsN_ap, fNotN_ap, fIsB_ap, fIx_ap, fAddX_ap, fSubX_ap, fMulX_ap, m1_ap, fNeg_ap, mB1_ap, fLen_ap, fAbs_ap, fInt_ap, fMin2_ap, fMax2_ap, fList_ap, fTuple_ap, fStr_ap, mMt_ap, mMtZ_ap, fAppend_ap, fInsert_ap, fPopAt_ap, oNone_ap, oSome_ap, mSl_ap, gIx_ap, mIsi_ap, fEqX_ap, fNeX_ap, fAll_ap, fAny_ap, fSum_ap, fSorted_ap, fBest_ap, fIdx_ap, fRepr_ap, mPermA_ap, fBack_ap, gSplice_ap, mSortSet_ap, fMulY_ap, mTupRan_ap, fIsX_ap, ia_none_int, ia_none_bool, ia_none_list, ia_none_tuple, ia_none_str, ia_none_seq, ia_bool_int, ia_bool_bool, ia_bool_list, ia_bool_tuple, ia_bool_str, ia_bool_seq, ia_int_int, ia_int_bool, ia_int_list, ia_int_tuple, ia_int_str, ia_int_seq, ia_str_int, ia_str_bool, ia_str_list, ia_str_tuple, ia_str_str, ia_str_seq, ia_list_int, ia_list_bool, ia_list_list, ia_list_tuple, ia_list_str, ia_list_seq, ia_tuple_int, ia_tuple_bool, ia_tuple_list, ia_tuple_tuple, ia_tuple_str, ia_tuple_seq, mLst_ap, mTup_ap, mYes_ap, frz, frzAll, peek, res1, resAll, stoAll, argOf, argsOf, bors, wback, outAt, outsFrom, ownsStay, retv, wipeF, unwipe, sto, isNone, tyD, cY, cMul, cMod, cDiv, cPow, Cell.data, b2n, atI, ixN, fMulL]
    | .bool _, _ => simp [mVar_ap, mLit_ap, m2_ap, mB_ap, mAndT_ap, mOrT_ap, mNotT_ap, mAndV_ap, mOrV_ap, mNotV_ap, mIfE_ap, mNil_ap, mCons_ap, mDisp_ap, gSet_ap, gsNil_ap, gsCons_ap, gTupD_ap, mSet_ap, mAsg_ap, mPar_ap, mExpr_ap, mRet_ap, mRetN_ap, mNext_ap, mBreak_ap, mCont_ap, mSeq_ap, mIf_ap, iSeq_ap, iRan_ap, iZp_ap, mFor_ap, mWhile_ap, mCall_ap, mkD_ap, mLc_ap, fI_ap, fAdd_ap, fSub_ap, fMul_ap, fMod_ap, fDiv_ap, fPow_ap, fLt_ap, fLe_ap, fGt_ap, fGe_ap, fIsN_ap, fNotN_ap, fIsB_ap, fIx_ap, fAddX_ap, fSubX_ap, fMulX_ap, m1_ap, fNeg_ap, mB1_ap, fLen_ap, fAbs_ap, fInt_ap, fMin2_ap, fMax2_ap, fList_ap, fTuple_ap, fStr_ap, mMt_ap, mMtZ_ap, fAppend_ap, fInsert_ap, fPopAt_ap, oNone_ap, oSome_ap, mSl_ap, gIx_ap, mIsi_ap, fEqX_ap, fNeX_ap, fAll_ap, fAny_ap, fSum_ap, fSorted_ap, fBest_ap, fIdx_ap, fRepr_ap, mPermA_ap, fBack_ap, gSplice_ap, mSortSet_ap, fMulY_ap, mTupRan_ap, fIsX_ap, ia_none_int, ia_none_bool, ia_none_list, ia_none_tuple, ia_none_str, ia_none_seq, ia_bool_int, ia_bool_bool, ia_bool_list, ia_bool_tuple, ia_bool_str, ia_bool_seq, ia_int_int, ia_int_bool, ia_int_list, ia_int_tuple, ia_int_str, ia_int_seq, ia_str_int, ia_str_bool, ia_str_list, ia_str_tuple, ia_str_str, ia_str_seq, ia_list_int, ia_list_bool, ia_list_list, ia_list_tuple, ia_list_str, ia_list_seq, ia_tuple_int, ia_tuple_bool, ia_tuple_list, ia_tuple_tuple, ia_tuple_str, ia_tuple_seq, mLst_ap, mTup_ap, mYes_ap, frz, frzAll, peek, res1, resAll, stoAll, argOf, argsOf, bors, wback, outAt, outsFrom, ownsStay, retv, wipeF, unwipe, sto, isNone, tyD, cY, cMul, cMod, cDiv, cPow, Cell.data, b2n, atI, ixN, fMulL]
    | .int _, _ => simp [mVar_ap, mLit_ap, m2_ap, mB_ap, mAndT_ap, mOrT_ap, mNotT_ap, mAndV_ap, mOrV_ap, mNotV_ap, mIfE_ap, mNil_ap, mCons_ap, mDisp_ap, gSet_ap, gsNil_ap, gsCons_ap, gTupD_ap, mSet_ap, mAsg_ap, mPar_ap, mExpr_ap, mRet_ap, mRetN_ap, mNext_ap, mBreak_ap, mCont_ap, mSeq_ap, mIf_ap, iSeq_ap, iRan_ap, iZp_ap, mFor_ap, mWhile_ap, mCall_ap, mkD_ap, mLc_ap, fI_ap, fAdd_ap, fSub_ap, fMul_ap, fMod_ap, fDiv_ap, fPow_ap, fLt_ap, fLe_ap, fGt_ap, fGe_ap, fIsN_ap, fNotN_ap, fIsB_ap, fIx_ap, fAddX_ap, fSubX_ap, fMulX_ap, m1_ap, fNeg_ap, mB1_ap, fLen_ap, fAbs_ap, fInt_ap, fMin2_ap, fMax2_ap, fList_ap, fTuple_ap, fStr_ap, mMt_ap, mMtZ_ap, fAppend_ap, fInsert_ap, fPopAt_ap, oNone_ap, oSome_ap, mSl_ap, gIx_ap, mIsi_ap, fEqX_ap, fNeX_ap, fAll_ap, fAny_ap, fSum_ap, fSorted_ap, fBest_ap, fIdx_ap, fRepr_ap, mPermA_ap, fBack_ap, gSplice_ap, mSortSet_ap, fMulY_ap, mTupRan_ap, fIsX_ap, ia_none_int, ia_none_bool, ia_none_list, ia_none_tuple, ia_none_str, ia_none_seq, ia_bool_int, ia_bool_bool, ia_bool_list, ia_bool_tuple, ia_bool_str, ia_bool_seq, ia_int_int, ia_int_bool, ia_int_list, ia_int_tuple, ia_int_str, ia_int_seq, ia_str_int, ia_str_bool, ia_str_list, ia_str_tuple, ia_str_str, ia_str_seq, ia_list_int, ia_list_bool, ia_list_list, ia_list_tuple, ia_list_str, ia_list_seq, ia_tuple_int, ia_tuple_bool, ia_tuple_list, ia_tuple_tuple, ia_tuple_str, ia_tuple_seq, mLst_ap, mTup_ap, mYes_ap, frz, frzAll, peek, res1, resAll, stoAll, argOf, argsOf, bors, wback, outAt, outsFrom, ownsStay, retv, wipeF, unwipe, sto, isNone, tyD, cY, cMul, cMod, cDiv, cPow, Cell.data, b2n, atI, ixN, fMulL]
    | .str _, _ => simp [mVar_ap, mLit_ap, m2_ap, mB_ap, mAndT_ap, mOrT_ap, mNotT_ap, mAndV_ap, mOrV_ap, mNotV_ap, mIfE_ap, mNil_ap, mCons_ap, mDisp_ap, gSet_ap, gsNil_ap, gsCons_ap, gTupD_ap, mSet_ap, mAsg_ap, mPar_ap, mExpr_ap, mRet_ap, mRetN_ap, mNext_ap, mBreak_ap, mCont_ap, mSeq_ap, mIf_ap, iSeq_ap, iRan_ap, iZp_ap, mFor_ap, mWhile_ap, mCall_ap, mkD_ap, mLc_ap, fI_ap, fAdd_ap, fSub_ap, fMul_ap, fMod_ap, fDiv_ap, fPow_ap, fLt_ap, fLe_ap, fGt_ap, fGe_ap, fIsN_ap, fNotN_ap, fIsB_ap, fIx_ap, fAddX_ap, fSubX_ap, fMulX_ap, m1_ap, fNeg_ap, mB1_ap, fLen_ap, fAbs_ap, fInt_ap, fMin2_ap, fMax2_ap, fList_ap, fTuple_ap, fStr_ap, mMt_ap, mMtZ_ap, fAppend_ap, fInsert_ap, fPopAt_ap, oNone_ap, oSome_ap, mSl_ap, gIx_ap, mIsi_ap, fEqX_ap, fNeX_ap, fAll_ap, fAny_ap, fSum_ap, fSorted_ap, fBest_ap, fIdx_ap, fRepr_ap, mPermA_ap, fBack_ap, gSplice_ap, mSortSet_ap, fMulY_ap, mTupRan_ap, fIsX_ap, ia_none_int, ia_none_bool, ia_none_list, ia_none_tuple, ia_none_str, ia_none_seq, ia_bool_int, ia_bool_bool, ia_bool_list, ia_bool_tuple, ia_bool_str, ia_bool_seq, ia_int_int, ia_int_bool, ia_int_list, ia_int_tuple, ia_int_str, ia_int_seq, ia_str_int, ia_str_bool, ia_str_list, ia_str_tuple, ia_str_str, ia_str_seq, ia_list_int, ia_list_bool, ia_list_list, ia_list_tuple, ia_list_str, ia_list_seq, ia_tuple_int, ia_tuple_bool, ia_tuple_list, ia_tuple_tuple, ia_tuple_str, ia_tuple_seq, mLst_ap, mTup_ap, mYes_ap, frz, frzAll, peek, res1, resAll, stoAll, argOf, argsOf, bors, wback, outAt, outsFrom, ownsStay, retv, wipeF, unwipe, sto, isNone, tyD, cY, cMul, cMod, cDiv, cPow, Cell.data, b2n, atI, ixN, fMulL]
    | .list _, o => simp [Ok] at o
    | .tuple _, o => simp [Ok] at o
    | .dict _, o => simp [Ok] at o
  | succ h ih =>
    intro n d C s hh hn o hs hC
    have hs' := hs
    obtain ⟨q, rfl⟩ := hs.own
    have main : ∀ e es, (d = .list (e :: es) ∨ d = .tuple (e :: es)) → BtAt l b (h + 1) n C (.own (.lst q)) d := by
      intro e es hd
      have o' : (e :: es).length ≤ l ∧ ∀ x ∈ e :: es, Ok l b h x := by
        rcases hd with rfl | rfl
        · simpa only [Ok] using o
        · simpa only [Ok] using o
      obtain ⟨n, rfl⟩ : ∃ m, n = m + 1 := ⟨n - 1, by omega⟩
      obtain ⟨r6, s1, a1, a2, a3, a4⟩ := take_ok (n := n) (by omega) hs (by omega) (k := 6) (by omega) (by omega)
      obtain ⟨q1, rfl⟩ := a3.own
      by_cases h6 : r6 = 0
      · subst h6
        refine bent_odd (by omega) hs (by omega) o hl hl2 hb hb2 _ a3 ?_
        have hnz : ¬ ((es.length : Int) + 1 = 0) := by omega
        rcases hd with rfl | rfl
        · simp [mVar_ap, mLit_ap, m2_ap, mB_ap, mAndT_ap, mOrT_ap, mNotT_ap, mAndV_ap, mOrV_ap, mNotV_ap, mIfE_ap, mNil_ap, mCons_ap, mDisp_ap, gSet_ap, gsNil_ap, gsCons_ap, gTupD_ap, mSet_ap, mAsg_ap, mPar_ap, mExpr_ap, mRet_ap, mRetN_ap, mNext_ap, mBreak_ap, mCont_ap, mSeq_ap, mIf_ap, iSeq_ap, iRan_ap, iZp_ap, mFor_ap, mWhile_ap, mCall_ap, mkD_ap, mLc_ap, fI_ap, fAdd_ap, fSub_ap, fMul_ap, fMod_ap, fDiv_ap, fPow_ap, fLt_ap, fLe_ap, fGt_ap, fGe_ap, fIsN_ap, fNotN_ap, fIsB_ap, fIx_ap, fAddX_ap, fSubX_ap, fMulX_ap, m1_ap, fNeg_ap, mB1_ap, fLen_ap, fAbs_ap, fInt_ap, fMin2_ap, fMax2_ap, fList_ap, fTuple_ap, fStr_ap, mMt_ap, mMtZ_ap, fAppend_ap, fInsert_ap, fPopAt_ap, oNone_ap, oSome_ap, mSl_ap, gIx_ap, mIsi_ap, fEqX_ap, fNeX_ap, fAll_ap, fAny_ap, fSum_ap, fSorted_ap, fBest_ap, fIdx_ap, fRepr_ap, mPermA_ap, fBack_ap, gSplice_ap, mSortSet_ap, fMulY_ap, mTupRan_ap, fIsX_ap, ia_none_int, ia_none_bool, ia_none_list, ia_none_tuple, ia_none_str, ia_none_seq, ia_bool_int, ia_bool_bool, ia_bool_list, ia_bool_tuple, ia_bool_str, ia_bool_seq, ia_int_int, ia_int_bool, ia_int_list, ia_int_tuple, ia_int_str, ia_int_seq, ia_str_int, ia_str_bool, ia_str_list, ia_str_tuple, ia_str_str, ia_str_seq, ia_list_int, ia_list_bool, ia_list_list, ia_list_tuple, ia_list_str, ia_list_seq, ia_tuple_int, ia_tuple_bool, ia_tuple_list, ia_tuple_tuple, ia_tuple_str, ia_tuple_seq, mLst_ap, mTup_ap, mYes_ap, frz, frzAll, peek, res1, resAll, stoAll, argOf, argsOf, bors, wback, outAt, outsFrom, ownsStay, retv, wipeF, unwipe, sto, isNone, tyD, cY, cMul, cMod, cDiv, cPow, Cell.data, b2n, atI, ixN, fMulL, a4, shaped_int, eqv_int, hnz]
        · simp [mVar_ap, mLit_ap, m2_ap, mB_ap, mAndT_ap, mOrT_ap, mNotT_ap, mAndV_ap, mOrV_ap, mNotV_ap, mIfE_ap, mNil_ap, mCons_ap, mDisp_ap, gSet_ap, gsNil_ap, gsCons_ap, gTupD_ap, mSet_ap, mAsg_ap, mPar_ap, mExpr_ap, mRet_ap, mRetN_ap, mNext_ap, mBreak_ap, mCont_ap, mSeq_ap, mIf_ap, iSeq_ap, iRan_ap, iZp_ap, mFor_ap, mWhile_ap, mCall_ap, mkD_ap, mLc_ap, fI_ap, fAdd_ap, fSub_ap, fMul_ap, fMod_ap, fDiv_ap, fPow_ap, fLt_ap, fLe_ap, fGt_ap, fGe_ap, fIsN_ap, fNotN_ap, fIsB_ap, fIx_ap, fAddX_ap, fSubX_ap, fMulX_ap, m1_ap, fNeg_ap, mB1_ap, fLen_ap, fAbs_ap, fInt_ap, fMin2_ap, fMax2_ap, fList_ap, fTuple_ap, fStr_ap, mMt_ap, mMtZ_ap, fAppend_ap, fInsert_ap, fPopAt_ap, oNone_ap, oSome_ap, mSl_ap, gIx_ap, mIsi_ap, fEqX_ap, fNeX_ap, fAll_ap, fAny_ap, fSum_ap, fSorted_ap, fBest_ap, fIdx_ap, fRepr_ap, mPermA_ap, fBack_ap, gSplice_ap, mSortSet_ap, fMulY_ap, mTupRan_ap, fIsX_ap, ia_none_int, ia_none_bool, ia_none_list, ia_none_tuple, ia_none_str, ia_none_seq, ia_bool_int, ia_bool_bool, ia_bool_list, ia_bool_tuple, ia_bool_str, ia_bool_seq, ia_int_int, ia_int_bool, ia_int_list, ia_int_tuple, ia_int_str, ia_int_seq, ia_str_int, ia_str_bool, ia_str_list, ia_str_tuple, ia_str_str, ia_str_seq, ia_list_int, ia_list_bool, ia_list_list, ia_list_tuple, ia_list_str, ia_list_seq, ia_tuple_int, ia_tuple_bool, ia_tuple_list, ia_tuple_tuple, ia_tuple_str, ia_tuple_seq, mLst_ap, mTup_ap, mYes_ap, frz, frzAll, peek, res1, resAll, stoAll, argOf, argsOf, bors, wback, outAt, outsFrom, ownsStay, retv, wipeF, unwipe, sto, isNone, tyD, cY, cMul, cMod, cDiv, cPow, Cell.data, b2n, atI, ixN, fMulL, a4, shaped_int, eqv_int, hnz]
      · obtain ⟨at_, s2, b1, b2, b3, b4⟩ := take_ok (n := n) (by omega) a3 (by omega) (k := ((e :: es).length : Nat)) (by simp) (by omega)
        obtain ⟨q2, rfl⟩ := b3.own
        obtain ⟨so, s3, c1, c2, c3, c4⟩ := take_ok (n := n) (by omega) b3 (by omega) (k := 8) (by omega) (by omega)
        obtain ⟨q3, rfl⟩ := c3.own
        have hnz : ¬ ((es.length : Int) + 1 = 0) := by omega
        have st1 : mIf (mOrT (mNotT (mB (mIsi ["list", "tuple"] (mVar 1)))) (mOrT (mB (m2 fEqX (mB1 fLen (mCons (mVar 1) mNil)) (mLit (.int 0)))) (mB (m2 fEqX (mCall (D_take n) (mCons (mVar 0) (mCons (mLit (.int 6)) mNil))) (mLit (.int 0)))))) (mRet (mCall (D_odd n) (mCons (mVar 0) (mCons (mVar 1) mNil)))) mNext [some (.own (.lst q)), some (.dat d), none, none, none] = some (.nx, [some (.own (.lst q1)), some (.dat d), none, none, none]) := by
          rcases hd with rfl | rfl
          · simp [mVar_ap, mLit_ap, m2_ap, mB_ap, mAndT_ap, mOrT_ap, mNotT_ap, mAndV_ap, mOrV_ap, mNotV_ap, mIfE_ap, mNil_ap, mCons_ap, mDisp_ap, gSet_ap, gsNil_ap, gsCons_ap, gTupD_ap, mSet_ap, mAsg_ap, mPar_ap, mExpr_ap, mRet_ap, mRetN_ap, mNext_ap, mBreak_ap, mCont_ap, mSeq_ap, mIf_ap, iSeq_ap, iRan_ap, iZp_ap, mFor_ap, mWhile_ap, mCall_ap, mkD_ap, mLc_ap, fI_ap, fAdd_ap, fSub_ap, fMul_ap, fMod_ap, fDiv_ap, fPow_ap, fLt_ap, fLe_ap, fGt_ap, fGe_ap, fIsN_ap, fNotN_ap, fIsB_ap, fIx_ap, fAddX_ap, fSubX_ap, fMulX_ap, m1_ap, fNeg_ap, mB1_ap, fLen_ap, fAbs_ap, fInt_ap, fMin2_ap, fMax2_ap, fList_ap, fTuple_ap, fStr_ap, mMt_ap, mMtZ_ap, fAppend_ap, fInsert_ap, fPopAt_ap, oNone_ap, oSome_ap, mSl_ap, gIx_ap, mIsi_ap, fEqX_ap, fNeX_ap, fAll_ap, fAny_ap, fSum_ap, fSorted_ap, fBest_ap, fIdx_ap, fRepr_ap, mPermA_ap, fBack_ap, gSplice_ap, mSortSet_ap, fMulY_ap, mTupRan_ap, fIsX_ap, ia_none_int, ia_none_bool, ia_none_list, ia_none_tuple, ia_none_str, ia_none_seq, ia_bool_int, ia_bool_bool, ia_bool_list, ia_bool_tuple, ia_bool_str, ia_bool_seq, ia_int_int, ia_int_bool, ia_int_list, ia_int_tuple, ia_int_str, ia_int_seq, ia_str_int, ia_str_bool, ia_str_list, ia_str_tuple, ia_str_str, ia_str_seq, ia_list_int, ia_list_bool, ia_list_list, ia_list_tuple, ia_list_str, ia_list_seq, ia_tuple_int, ia_tuple_bool, ia_tuple_list, ia_tuple_tuple, ia_tuple_str, ia_tuple_seq, mLst_ap, mTup_ap, mYes_ap, frz, frzAll, peek, res1, resAll, stoAll, argOf, argsOf, bors, wback, outAt, outsFrom, ownsStay, retv, wipeF, unwipe, sto, isNone, tyD, cY, cMul, cMod, cDiv, cPow, Cell.data, b2n, atI, ixN, fMulL, a4, shaped_int, eqv_int, hnz, h6]
          · simp [mVar_ap, mLit_ap, m2_ap, mB_ap, mAndT_ap, mOrT_ap, mNotT_ap, mAndV_ap, mOrV_ap, mNotV_ap, mIfE_ap, mNil_ap, mCons_ap, mDisp_ap, gSet_ap, gsNil_ap, gsCons_ap, gTupD_ap, mSet_ap, mAsg_ap, mPar_ap, mExpr_ap, mRet_ap, mRetN_ap, mNext_ap, mBreak_ap, mCont_ap, mSeq_ap, mIf_ap, iSeq_ap, iRan_ap, iZp_ap, mFor_ap, mWhile_ap, mCall_ap, mkD_ap, mLc_ap, fI_ap, fAdd_ap, fSub_ap, fMul_ap, fMod_ap, fDiv_ap, fPow_ap, fLt_ap, fLe_ap, fGt_ap, fGe_ap, fIsN_ap, fNotN_ap, fIsB_ap, fIx_ap, fAddX_ap, fSubX_ap, fMulX_ap, m1_ap, fNeg_ap, mB1_ap, fLen_ap, fAbs_ap, fInt_ap, fMin2_ap, fMax2_ap, fList_ap, fTuple_ap, fStr_ap, mMt_ap, mMtZ_ap, fAppend_ap, fInsert_ap, fPopAt_ap, oNone_ap, oSome_ap, mSl_ap, gIx_ap, mIsi_ap, fEqX_ap, fNeX_ap, fAll_ap, fAny_ap, fSum_ap, fSorted_ap, fBest_ap, fIdx_ap, fRepr_ap, mPermA_ap, fBack_ap, gSplice_ap, mSortSet_ap, fMulY_ap, mTupRan_ap, fIsX_ap, ia_none_int, ia_none_bool, ia_none_list, ia_none_tuple, ia_none_str, ia_none_seq, ia_bool_int, ia_bool_bool, ia_bool_list, ia_bool_tuple, ia_bool_str, ia_bool_seq, ia_int_int, ia_int_bool, ia_int_list, ia_int_tuple, ia_int_str, ia_int_seq, ia_str_int, ia_str_bool, ia_str_list, ia_str_tuple, ia_str_str, ia_str_seq, ia_list_int, ia_list_bool, ia_list_list, ia_list_tuple, ia_list_str, ia_list_seq, ia_tuple_int, ia_tuple_bool, ia_tuple_list, ia_tuple_tuple, ia_tuple_str, ia_tuple_seq, mLst_ap, mTup_ap, mYes_ap, frz, frzAll, peek, res1, resAll, stoAll, argOf, argsOf, bors, wback, outAt, outsFrom, ownsStay, retv, wipeF, unwipe, sto, isNone, tyD, cY, cMul, cMod, cDiv, cPow, Cell.data, b2n, atI, ixN, fMulL, a4, shaped_int, eqv_int, hnz, h6]
        generalize hds : e :: es = ds at *
        have st2 : mPar [2, 3, 4] (mCons (mCall (D_take n) (mCons (mVar 0) (mCons (mB1 fLen (mCons (mVar 1) mNil)) mNil))) (mCons (mB1 fList (mCons (mVar 1) mNil)) (mCons (mCall (D_take n) (mCons (mVar 0) (mCons (mLit (.int 8)) mNil))) mNil))) [some (.own (.lst q1)), some (.dat d), none, none, none] = some (.nx, [some (.own (.lst q3)), some (.dat d), some (.dat (.int at_)), some (.own (.lst ds)), some (.dat (.int so))]) := by
          rcases hd with rfl | rfl
          · simp [mVar_ap, mLit_ap, m2_ap, mB_ap, mAndT_ap, mOrT_ap, mNotT_ap, mAndV_ap, mOrV_ap, mNotV_ap, mIfE_ap, mNil_ap, mCons_ap, mDisp_ap, gSet_ap, gsNil_ap, gsCons_ap, gTupD_ap, mSet_ap, mAsg_ap, mPar_ap, mExpr_ap, mRet_ap, mRetN_ap, mNext_ap, mBreak_ap, mCont_ap, mSeq_ap, mIf_ap, iSeq_ap, iRan_ap, iZp_ap, mFor_ap, mWhile_ap, mCall_ap, mkD_ap, mLc_ap, fI_ap, fAdd_ap, fSub_ap, fMul_ap, fMod_ap, fDiv_ap, fPow_ap, fLt_ap, fLe_ap, fGt_ap, fGe_ap, fIsN_ap, fNotN_ap, fIsB_ap, fIx_ap, fAddX_ap, fSubX_ap, fMulX_ap, m1_ap, fNeg_ap, mB1_ap, fLen_ap, fAbs_ap, fInt_ap, fMin2_ap, fMax2_ap, fList_ap, fTuple_ap, fStr_ap, mMt_ap, mMtZ_ap, fAppend_ap, fInsert_ap, fPopAt_ap, oNone_ap, oSome_ap, mSl_ap, gIx_ap, mIsi_ap, fEqX_ap, fNeX_ap, fAll_ap, fAny_ap, fSum_ap, fSorted_ap, fBest_ap, fIdx_ap, fRepr_ap, mPermA_ap, fBack_ap, gSplice_ap, mSortSet_ap, fMulY_ap, mTupRan_ap, fIsX_ap, ia_none_int, ia_none_bool, ia_none_list, ia_none_tuple, ia_none_str, ia_none_seq, ia_bool_int, ia_bool_bool, ia_bool_list, ia_bool_tuple, ia_bool_str, ia_bool_seq, ia_int_int, ia_int_bool, ia_int_list, ia_int_tuple, ia_int_str, ia_int_seq, ia_str_int, ia_str_bool, ia_str_list, ia_str_tuple, ia_str_str, ia_str_seq, ia_list_int, ia_list_bool, ia_list_list, ia_list_tuple, ia_list_str, ia_list_seq, ia_tuple_int, ia_tuple_bool, ia_tuple_list, ia_tuple_tuple, ia_tuple_str, ia_tuple_seq, mLst_ap, mTup_ap, mYes_ap, frz, frzAll, peek, res1, resAll, stoAll, argOf, argsOf, bors, wback, outAt, outsFrom, ownsStay, retv, wipeF, unwipe, sto, isNone, tyD, cY, cMul, cMod, cDiv, cPow, Cell.data, b2n, atI, ixN, fMulL, b4, c4]
          · simp [mVar_ap, mLit_ap, m2_ap, mB_ap, mAndT_ap, mOrT_ap, mNotT_ap, mAndV_ap, mOrV_ap, mNotV_ap, mIfE_ap, mNil_ap, mCons_ap, mDisp_ap, gSet_ap, gsNil_ap, gsCons_ap, gTupD_ap, mSet_ap, mAsg_ap, mPar_ap, mExpr_ap, mRet_ap, mRetN_ap, mNext_ap, mBreak_ap, mCont_ap, mSeq_ap, mIf_ap, iSeq_ap, iRan_ap, iZp_ap, mFor_ap, mWhile_ap, mCall_ap, mkD_ap, mLc_ap, fI_ap, fAdd_ap, fSub_ap, fMul_ap, fMod_ap, fDiv_ap, fPow_ap, fLt_ap, fLe_ap, fGt_ap, fGe_ap, fIsN_ap, fNotN_ap, fIsB_ap, fIx_ap, fAddX_ap, fSubX_ap, fMulX_ap, m1_ap, fNeg_ap, mB1_ap, fLen_ap, fAbs_ap, fInt_ap, fMin2_ap, fMax2_ap, fList_ap, fTuple_ap, fStr_ap, mMt_ap, mMtZ_ap, fAppend_ap, fInsert_ap, fPopAt_ap, oNone_ap, oSome_ap, mSl_ap, gIx_ap, mIsi_ap, fEqX_ap, fNeX_ap, fAll_ap, fAny_ap, fSum_ap, fSorted_ap, fBest_ap, fIdx_ap, fRepr_ap, mPermA_ap, fBack_ap, gSplice_ap, mSortSet_ap, fMulY_ap, mTupRan_ap, fIsX_ap, ia_none_int, ia_none_bool, ia_none_list, ia_none_tuple, ia_none_str, ia_none_seq, ia_bool_int, ia_bool_bool, ia_bool_list, ia_bool_tuple, ia_bool_str, ia_bool_seq, ia_int_int, ia_int_bool, ia_int_list, ia_int_tuple, ia_int_str, ia_int_seq, ia_str_int, ia_str_bool, ia_str_list, ia_str_tuple, ia_str_str, ia_str_seq, ia_list_int, ia_list_bool, ia_list_list, ia_list_tuple, ia_list_str, ia_list_seq, ia_tuple_int, ia_tuple_bool, ia_tuple_list, ia_tuple_tuple, ia_tuple_str, ia_tuple_seq, mLst_ap, mTup_ap, mYes_ap, frz, frzAll, peek, res1, resAll, stoAll, argOf, argsOf, bors, wback, outAt, outsFrom, ownsStay, retv, wipeF, unwipe, sto, isNone, tyD, cY, cMul, cMod, cDiv, cPow, Cell.data, b2n, atI, ixN, fMulL, b4, c4]
        have hat : at_.toNat < ds.length := by omega
        have okm : ∀ x ∈ ds, Ok (l + 1) (b + 1) (h + 1 + 1) x := fun x m => (o'.2 x m).mono (by omega) (by omega) (by omega)
        have i1 : -9223372036854775808 ≤ at_ := by omega
        have i2 : at_ < 9223372036854775808 := by omega
        have i3 : ¬ (at_ < 0) := by omega
        by_cases k0 : so = 0
        · subst k0
          refine bent_end (n := n) mNext ds (ds.eraseIdx at_.toNat) at_ 0 hd c3 (by simp; omega) (by rw [List.length_eraseIdx]; split <;> omega) (fun x m => okm x (List.mem_of_mem_eraseIdx m)) (by have := szA_erase ds at_.toNat; omega) ?_
          unfold b_bent
          rw [mSeq_nx st1, mSeq_nx st2]
          refine mSeq_nx ?_
          simp [mVar_ap, mLit_ap, m2_ap, mB_ap, mAndT_ap, mOrT_ap, mNotT_ap, mAndV_ap, mOrV_ap, mNotV_ap, mIfE_ap, mNil_ap, mCons_ap, mDisp_ap, gSet_ap, gsNil_ap, gsCons_ap, gTupD_ap, mSet_ap, mAsg_ap, mPar_ap, mExpr_ap, mRet_ap, mRetN_ap, mNext_ap, mBreak_ap, mCont_ap, mSeq_ap, mIf_ap, iSeq_ap, iRan_ap, iZp_ap, mFor_ap, mWhile_ap, mCall_ap, mkD_ap, mLc_ap, fI_ap, fAdd_ap, fSub_ap, fMul_ap, fMod_ap, fDiv_ap, fPow_ap, fLt_ap, fLe_ap, fGt_ap, fGe_ap, fIsN_ap, fNotN_ap, fIsB_ap, fIx_ap, fAddX_ap, fSubX_ap, fMulX_ap, m1_ap, fNeg_ap, mB1_ap, fLen_ap, fAbs_ap, fInt_ap, fMin2_ap, fMax2_ap, fList_ap, fTuple_ap, fStr_ap, mMt_ap, mMtZ_ap, fAppend_ap, fInsert_ap, fPopAt_ap, oNone_ap, oSome_ap, mSl_ap, gIx_ap, mIsi_ap, fEqX_ap, fNeX_ap, fAll_ap, fAny_ap, fSum_ap, fSorted_ap, fBest_ap, fIdx_ap, fRepr_ap, mPermA_ap, fBack_ap, gSplice_ap, mSortSet_ap, fMulY_ap, mTupRan_ap, fIsX_ap, ia_none_int, ia_none_bool, ia_none_list, ia_none_tuple, ia_none_str, ia_none_seq, ia_bool_int, ia_bool_bool, ia_bool_list, ia_bool_tuple, ia_bool_str, ia_bool_seq, ia_int_int, ia_int_bool, ia_int_list, ia_int_tuple, ia_int_str, ia_int_seq, ia_str_int, ia_str_bool, ia_str_list, ia_str_tuple, ia_str_str, ia_str_seq, ia_list_int, ia_list_bool, ia_list_list, ia_list_tuple, ia_list_str, ia_list_seq, ia_tuple_int, ia_tuple_bool, ia_tuple_list, ia_tuple_tuple, ia_tuple_str, ia_tuple_seq, mLst_ap, mTup_ap, mYes_ap, frz, frzAll, peek, res1, resAll, stoAll, argOf, argsOf, bors, wback, outAt, outsFrom, ownsStay, retv, wipeF, unwipe, sto, isNone, tyD, cY, cMul, cMod, cDiv, cPow, Cell.data, b2n, fMulL, shaped_int, eqv_int, seqIndex?, i1, i2, i3, b1, b2, hat]
        · by_cases k1 : so = 1
          · subst k1
            have hix : atI ds at_ = some ds[at_.toNat] := by simp [atI, ixN, b1, b2, hat]
            refine bent_end (n := n) mNext ds (ds.take at_.toNat ++ [ds[at_.toNat]] ++ ds.drop at_.toNat) at_ 1 hd c3 (by simp; omega) (by simp; omega) (fun x m => ?_) ?_ ?_
            · simp only [List.mem_append, List.mem_singleton] at m
              rcases m with (m | m) | m
              · exact okm x (List.mem_of_mem_take m)
              · subst m; exact okm _ (List.getElem_mem hat)
              · exact okm x (List.mem_of_mem_drop m)
            · rw [szA_app, szA_app, szA_cons, szA_nil]
              have q5 := szA_app (ds.take at_.toNat) (ds.drop at_.toNat)
              rw [List.take_append_drop] at q5
              have q6 := szA_mem (List.getElem_mem hat)
              omega
            · unfold b_bent
              rw [mSeq_nx st1, mSeq_nx st2]
              refine mSeq_nx ?_
              have q7 : ds.length < 16777216 := by omega
              simp [mVar_ap, mLit_ap, m2_ap, mB_ap, mAndT_ap, mOrT_ap, mNotT_ap, mAndV_ap, mOrV_ap, mNotV_ap, mIfE_ap, mNil_ap, mCons_ap, mDisp_ap, gSet_ap, gsNil_ap, gsCons_ap, gTupD_ap, mSet_ap, mAsg_ap, mPar_ap, mExpr_ap, mRet_ap, mRetN_ap, mNext_ap, mBreak_ap, mCont_ap, mSeq_ap, mIf_ap, iSeq_ap, iRan_ap, iZp_ap, mFor_ap, mWhile_ap, mCall_ap, mkD_ap, mLc_ap, fI_ap, fAdd_ap, fSub_ap, fMul_ap, fMod_ap, fDiv_ap, fPow_ap, fLt_ap, fLe_ap, fGt_ap, fGe_ap, fIsN_ap, fNotN_ap, fIsB_ap, fIx_ap, fAddX_ap, fSubX_ap, fMulX_ap, m1_ap, fNeg_ap, mB1_ap, fLen_ap, fAbs_ap, fInt_ap, fMin2_ap, fMax2_ap, fList_ap, fTuple_ap, fStr_ap, mMt_ap, mMtZ_ap, fAppend_ap, fInsert_ap, fPopAt_ap, oNone_ap, oSome_ap, mSl_ap, gIx_ap, mIsi_ap, fEqX_ap, fNeX_ap, fAll_ap, fAny_ap, fSum_ap, fSorted_ap, fBest_ap, fIdx_ap, fRepr_ap, mPermA_ap, fBack_ap, gSplice_ap, mSortSet_ap, fMulY_ap, mTupRan_ap, fIsX_ap, ia_none_int, ia_none_bool, ia_none_list, ia_none_tuple, ia_none_str, ia_none_seq, ia_bool_int, ia_bool_bool, ia_bool_list, ia_bool_tuple, ia_bool_str, ia_bool_seq, ia_int_int, ia_int_bool, ia_int_list, ia_int_tuple, ia_int_str, ia_int_seq, ia_str_int, ia_str_bool, ia_str_list, ia_str_tuple, ia_str_str, ia_str_seq, ia_list_int, ia_list_bool, ia_list_list, ia_list_tuple, ia_list_str, ia_list_seq, ia_tuple_int, ia_tuple_bool, ia_tuple_list, ia_tuple_tuple, ia_tuple_str, ia_tuple_seq, mLst_ap, mTup_ap, mYes_ap, frz, frzAll, peek, res1, resAll, stoAll, argOf, argsOf, bors, wback, outAt, outsFrom, ownsStay, retv, wipeF, unwipe, sto, isNone, tyD, cY, cMul, cMod, cDiv, cPow, Cell.data, b2n, fMulL, shaped_int, eqv_int, hix, b1, i2, sizeLine_v, q7]
          · by_cases k2 : so = 2
            · subst k2
              have q7 : ds.length + (Rf.cutD ds (some at_) (some (at_ + 2))).reverse.length ≤ 16777216 := by have := cut_len ds (some at_) (some (at_ + 2)); simp; omega
              have q8 : at_ ≤ at_ + 2 := by omega
              have q9 := cut_two (ds := ds) b1 hat
              have q10 : (at_ + 2).toNat = at_.toNat + 2 := by omega
              refine bent_end (n := n) mNext ds (ds.take at_.toNat ++ (Rf.cutD ds (some at_) (some (at_ + 2))).reverse ++ ds.drop (at_ + 2).toNat) at_ 2 hd c3 (by simp; omega) ?_ (fun x m => ?_) ?_ ?_
              · simp only [List.length_append, List.length_take, List.length_reverse, List.length_drop, q10]; omega
              · simp only [List.mem_append, List.mem_reverse] at m
                rcases m with (m | m) | m
                · exact okm x (List.mem_of_mem_take m)
                · exact okm _ (cut_mem m)
                · exact okm x (List.mem_of_mem_drop m)
              · rw [szA_app, szA_app, szA_rev]
                have q5 := szA_app (ds.take at_.toNat) (ds.drop at_.toNat)
                rw [List.take_append_drop] at q5
                have q6 := szA_drop 2 (ds.drop at_.toNat)
                rw [List.drop_drop] at q6
                have q11 := cut_sz ds (some at_) (some (at_ + 2))
                rw [q10]
                omega
              · unfold b_bent
                rw [mSeq_nx st1, mSeq_nx st2]
                refine mSeq_nx ?_
                simp only [List.length_reverse] at q7
                simp [mVar_ap, mLit_ap, m2_ap, mB_ap, mAndT_ap, mOrT_ap, mNotT_ap, mAndV_ap, mOrV_ap, mNotV_ap, mIfE_ap, mNil_ap, mCons_ap, mDisp_ap, gSet_ap, gsNil_ap, gsCons_ap, gTupD_ap, mSet_ap, mAsg_ap, mPar_ap, mExpr_ap, mRet_ap, mRetN_ap, mNext_ap, mBreak_ap, mCont_ap, mSeq_ap, mIf_ap, iSeq_ap, iRan_ap, iZp_ap, mFor_ap, mWhile_ap, mCall_ap, mkD_ap, mLc_ap, fI_ap, fAdd_ap, fSub_ap, fMul_ap, fMod_ap, fDiv_ap, fPow_ap, fLt_ap, fLe_ap, fGt_ap, fGe_ap, fIsN_ap, fNotN_ap, fIsB_ap, fIx_ap, fAddX_ap, fSubX_ap, fMulX_ap, m1_ap, fNeg_ap, mB1_ap, fLen_ap, fAbs_ap, fInt_ap, fMin2_ap, fMax2_ap, fList_ap, fTuple_ap, fStr_ap, mMt_ap, mMtZ_ap, fAppend_ap, fInsert_ap, fPopAt_ap, oNone_ap, oSome_ap, mSl_ap, gIx_ap, mIsi_ap, fEqX_ap, fNeX_ap, fAll_ap, fAny_ap, fSum_ap, fSorted_ap, fBest_ap, fIdx_ap, fRepr_ap, mPermA_ap, fBack_ap, gSplice_ap, mSortSet_ap, fMulY_ap, mTupRan_ap, fIsX_ap, ia_none_int, ia_none_bool, ia_none_list, ia_none_tuple, ia_none_str, ia_none_seq, ia_bool_int, ia_bool_bool, ia_bool_list, ia_bool_tuple, ia_bool_str, ia_bool_seq, ia_int_int, ia_int_bool, ia_int_list, ia_int_tuple, ia_int_str, ia_int_seq, ia_str_int, ia_str_bool, ia_str_list, ia_str_tuple, ia_str_str, ia_str_seq, ia_list_int, ia_list_bool, ia_list_list, ia_list_tuple, ia_list_str, ia_list_seq, ia_tuple_int, ia_tuple_bool, ia_tuple_list, ia_tuple_tuple, ia_tuple_str, ia_tuple_seq, mLst_ap, mTup_ap, mYes_ap, frz, frzAll, peek, res1, resAll, stoAll, argOf, argsOf, bors, wback, outAt, outsFrom, ownsStay, retv, wipeF, unwipe, sto, isNone, tyD, cY, cMul, cMod, cDiv, cPow, Cell.data, b2n, fMulL, shaped_int, eqv_int, b1, q8, sizeLine_v, q7]
            · have hix : atI ds at_ = some ds[at_.toNat] := by simp [atI, ixN, b1, b2, hat]
              obtain ⟨v, x, s4, d1, d2, d3, d4, d5⟩ := ih (n := n) (d := ds[at_.toNat]) (C := C + 1 + 1 + 1) (s := .own (.lst q3)) (by omega) (by omega) (o'.2 _ (List.getElem_mem hat)) c3 (by omega)
              obtain ⟨q4, rfl⟩ := d2.own
              refine bent_end (n := n) mNext ds (ds.set at_.toNat x) at_ so hd d2 (by simp; omega) (by simp; omega) (fun y m => ?_) ?_ ?_
              · rcases List.mem_or_eq_of_mem_set m with m | m
                · exact okm y m
                · subst m; exact d3.mono (by omega) (by omega) (by omega)
              · have := szA_set x ds at_.toNat ds[at_.toNat] (by simp [hat])
                have := szA_mem (List.getElem_mem hat)
                omega
              · unfold b_bent
                rw [mSeq_nx st1, mSeq_nx st2]
                refine mSeq_nx ?_
                have hixn : ixN ds.length at_ = some at_.toNat := by simp [ixN, b1, b2]
                rcases d5 with rfl | ⟨_, zs, rfl, rfl⟩
                · simp [mVar_ap, mLit_ap, m2_ap, mB_ap, mAndT_ap, mOrT_ap, mNotT_ap, mAndV_ap, mOrV_ap, mNotV_ap, mIfE_ap, mNil_ap, mCons_ap, mDisp_ap, gSet_ap, gsNil_ap, gsCons_ap, gTupD_ap, mSet_ap, mAsg_ap, mPar_ap, mExpr_ap, mRet_ap, mRetN_ap, mNext_ap, mBreak_ap, mCont_ap, mSeq_ap, mIf_ap, iSeq_ap, iRan_ap, iZp_ap, mFor_ap, mWhile_ap, mCall_ap, mkD_ap, mLc_ap, fI_ap, fAdd_ap, fSub_ap, fMul_ap, fMod_ap, fDiv_ap, fPow_ap, fLt_ap, fLe_ap, fGt_ap, fGe_ap, fIsN_ap, fNotN_ap, fIsB_ap, fIx_ap, fAddX_ap, fSubX_ap, fMulX_ap, m1_ap, fNeg_ap, mB1_ap, fLen_ap, fAbs_ap, fInt_ap, fMin2_ap, fMax2_ap, fList_ap, fTuple_ap, fStr_ap, mMt_ap, mMtZ_ap, fAppend_ap, fInsert_ap, fPopAt_ap, oNone_ap, oSome_ap, mSl_ap, gIx_ap, mIsi_ap, fEqX_ap, fNeX_ap, fAll_ap, fAny_ap, fSum_ap, fSorted_ap, fBest_ap, fIdx_ap, fRepr_ap, mPermA_ap, fBack_ap, gSplice_ap, mSortSet_ap, fMulY_ap, mTupRan_ap, fIsX_ap, ia_none_int, ia_none_bool, ia_none_list, ia_none_tuple, ia_none_str, ia_none_seq, ia_bool_int, ia_bool_bool, ia_bool_list, ia_bool_tuple, ia_bool_str, ia_bool_seq, ia_int_int, ia_int_bool, ia_int_list, ia_int_tuple, ia_int_str, ia_int_seq, ia_str_int, ia_str_bool, ia_str_list, ia_str_tuple, ia_str_str, ia_str_seq, ia_list_int, ia_list_bool, ia_list_list, ia_list_tuple, ia_list_str, ia_list_seq, ia_tuple_int, ia_tuple_bool, ia_tuple_list, ia_tuple_tuple, ia_tuple_str, ia_tuple_seq, mLst_ap, mTup_ap, mYes_ap, frz, frzAll, peek, res1, resAll, stoAll, argOf, argsOf, bors, wback, outAt, outsFrom, ownsStay, retv, wipeF, unwipe, sto, isNone, tyD, cY, cMul, cMod, cDiv, cPow, Cell.data, b2n, fMulL, shaped_int, eqv_int, hix, d1, k0, k1, k2, hixn]
                · simp [mVar_ap, mLit_ap, m2_ap, mB_ap, mAndT_ap, mOrT_ap, mNotT_ap, mAndV_ap, mOrV_ap, mNotV_ap, mIfE_ap, mNil_ap, mCons_ap, mDisp_ap, gSet_ap, gsNil_ap, gsCons_ap, gTupD_ap, mSet_ap, mAsg_ap, mPar_ap, mExpr_ap, mRet_ap, mRetN_ap, mNext_ap, mBreak_ap, mCont_ap, mSeq_ap, mIf_ap, iSeq_ap, iRan_ap, iZp_ap, mFor_ap, mWhile_ap, mCall_ap, mkD_ap, mLc_ap, fI_ap, fAdd_ap, fSub_ap, fMul_ap, fMod_ap, fDiv_ap, fPow_ap, fLt_ap, fLe_ap, fGt_ap, fGe_ap, fIsN_ap, fNotN_ap, fIsB_ap, fIx_ap, fAddX_ap, fSubX_ap, fMulX_ap, m1_ap, fNeg_ap, mB1_ap, fLen_ap, fAbs_ap, fInt_ap, fMin2_ap, fMax2_ap, fList_ap, fTuple_ap, fStr_ap, mMt_ap, mMtZ_ap, fAppend_ap, fInsert_ap, fPopAt_ap, oNone_ap, oSome_ap, mSl_ap, gIx_ap, mIsi_ap, fEqX_ap, fNeX_ap, fAll_ap, fAny_ap, fSum_ap, fSorted_ap, fBest_ap, fIdx_ap, fRepr_ap, mPermA_ap, fBack_ap, gSplice_ap, mSortSet_ap, fMulY_ap, mTupRan_ap, fIsX_ap, ia_none_int, ia_none_bool, ia_none_list, ia_none_tuple, ia_none_str, ia_none_seq, ia_bool_int, ia_bool_bool, ia_bool_list, ia_bool_tuple, ia_bool_str, ia_bool_seq, ia_int_int, ia_int_bool, ia_int_list, ia_int_tuple, ia_int_str, ia_int_seq, ia_str_int, ia_str_bool, ia_str_list, ia_str_tuple, ia_str_str, ia_str_seq, ia_list_int, ia_list_bool, ia_list_list, ia_list_tuple, ia_list_str, ia_list_seq, ia_tuple_int, ia_tuple_bool, ia_tuple_list, ia_tuple_tuple, ia_tuple_str, ia_tuple_seq, mLst_ap, mTup_ap, mYes_ap, frz, frzAll, peek, res1, resAll, stoAll, argOf, argsOf, bors, wback, outAt, outsFrom, ownsStay, retv, wipeF, unwipe, sto, isNone, tyD, cY, cMul, cMod, cDiv, cPow, Cell.data, b2n, fMulL, shaped_int, eqv_int, hix, d1, k0, k1, k2, hixn]
    match d, o, main with
    | .none, o, _ => exact bent_odd (by omega) hs (by omega) o hl hl2 hb hb2 _ (hs.mono (by omega)) (by simp [mVar_ap, mLit_ap, m2_ap, mB_ap, mAndT_ap, mOrT_ap, mNotT_ap, mAndV_ap, mOrV_ap, mNotV_ap, mIfE_ap, mNil_ap, mCons_ap, mDisp_ap, gSet_ap, gsNil_ap, gsCons_ap, gTupD_ap, mSet_ap, mAsg_ap, mPar_ap, mExpr_ap, mRet_ap, mRetN_ap, mNext_ap, mBreak_ap, mCont_ap, mSeq_ap, mIf_ap, iSeq_ap, iRan_ap, iZp_ap, mFor_ap, mWhile_ap, mCall_ap, mkD_ap, mLc_ap, fI_ap, fAdd_ap, fSub_ap, fMul_ap, fMod_ap, fDiv_ap, fPow_ap, fLt_ap, fLe_ap, fGt_ap, fGe_ap, fIsN_ap, fNotN_ap, fIsB_ap, fIx_ap, fAddX_ap, fSubX_ap, fMulX_ap, m1_ap, fNeg_ap, mB1_ap, fLen_ap, fAbs_ap, fInt_ap, fMin2_ap, fMax2_ap, fList_ap, fTuple_ap, fStr_ap, mMt_ap, mMtZ_ap, fAppend_ap, fInsert_ap, fPopAt_ap, oNone_ap, oSome_ap, mSl_ap, gIx_ap, mIsi_ap, fEqX_ap, fNeX_ap, fAll_ap, fAny_ap, fSum_ap, fSorted_ap, fBest_ap, fIdx_ap, fRepr_ap, mPermA_ap, fBack_ap, gSplice_ap, mSortSet_ap, fMulY_ap, mTupRan_ap, fIsX_ap, ia_none_int, ia_none_bool, ia_none_list, ia_none_tuple, ia_none_str, ia_none_seq, ia_bool_int, ia_bool_bool, ia_bool_list, ia_bool_tuple, ia_bool_str, ia_bool_seq, ia_int_int, ia_int_bool, ia_int_list, ia_int_tuple, ia_int_str, ia_int_seq, ia_str_int, ia_str_bool, ia_str_list, ia_str_tuple, ia_str_str, ia_str_seq, ia_list_int, ia_list_bool, ia_list_list, ia_list_tuple, ia_list_str, ia_list_seq, ia_tuple_int, ia_tuple_bool, ia_tuple_list, ia_tuple_tuple, ia_tuple_str, ia_tuple_seq, mLst_ap, mTup_ap, mYes_ap, frz, frzAll, peek, res1, resAll, stoAll, argOf, argsOf, bors, wback, outAt, outsFrom, ownsStay, retv, wipeF, unwipe, sto, isNone, tyD, cY, cMul, cMod, cDiv, cPow, Cell.data, b2n, atI, ixN, fMulL])
    | .bool _, o, _ => exact bent_odd (by omega) hs (by omega) o hl hl2 hb hb2 _ (hs.mono (by omega)) (by simp [mVar_ap, mLit_ap, m2_ap, mB_ap, mAndT_ap, mOrT_ap, mNotT_ap, mAndV_ap, mOrV_ap, mNotV_ap, mIfE_ap, mNil_ap, mCons_ap, mDisp_ap, gSet_ap, gsNil_ap, gsCons_ap, gTupD_ap, mSet_ap, mAsg_ap, mPar_ap, mExpr_ap, mRet_ap, mRetN_ap, mNext_ap, mBreak_ap, mCont_ap, mSeq_ap, mIf_ap, iSeq_ap, iRan_ap, iZp_ap, mFor_ap, mWhile_ap, mCall_ap, mkD_ap, mLc_ap, fI_ap, fAdd_ap, fSub_ap, fMul_ap, fMod_ap, fDiv_ap, fPow_ap, fLt_ap, fLe_ap, fGt_ap, fGe_ap, fIsN_ap, fNotN_ap, fIsB_ap, fIx_ap, fAddX_ap, fSubX_ap, fMulX_ap, m1_ap, fNeg_ap, mB1_ap, fLen_ap, fAbs_ap, fInt_ap, fMin2_ap, fMax2_ap, fList_ap, fTuple_ap, fStr_ap, mMt_ap, mMtZ_ap, fAppend_ap, fInsert_ap, fPopAt_ap, oNone_ap, oSome_ap, mSl_ap, gIx_ap, mIsi_ap, fEqX_ap, fNeX_ap, fAll_ap, fAny_ap, fSum_ap, fSorted_ap, fBest_ap, fIdx_ap, fRepr_ap, mPermA_ap, fBack_ap, gSplice_ap, mSortSet_ap, fMulY_ap, mTupRan_ap, fIsX_ap, ia_none_int, ia_none_bool, ia_none_list, ia_none_tuple, ia_none_str, ia_none_seq, ia_bool_int, ia_bool_bool, ia_bool_list, ia_bool_tuple, ia_bool_str, ia_bool_seq, ia_int_int, ia_int_bool, ia_int_list, ia_int_tuple, ia_int_str, ia_int_seq, ia_str_int, ia_str_bool, ia_str_list, ia_str_tuple, ia_str_str, ia_str_seq, ia_list_int, ia_list_bool, ia_list_list, ia_list_tuple, ia_list_str, ia_list_seq, ia_tuple_int, ia_tuple_bool, ia_tuple_list, ia_tuple_tuple, ia_tuple_str, ia_tuple_seq, mLst_ap, mTup_ap, mYes_ap, frz, frzAll, peek, res1, resAll, stoAll, argOf, argsOf, bors, wback, outAt, outsFrom, ownsStay, retv, wipeF, unwipe, sto, isNone, tyD, cY, cMul, cMod, cDiv, cPow, Cell.data, b2n, atI, ixN, fMulL])
    | .int _, o, _ => exact bent_odd (by omega) hs (by omega) o hl hl2 hb hb2 _ (hs.mono (by omega)) (by simp [mVar_ap, mLit_ap, m2_ap, mB_ap, mAndT_ap, mOrT_ap, mNotT_ap, mAndV_ap, mOrV_ap, mNotV_ap, mIfE_ap, mNil_ap, mCons_ap, mDisp_ap, gSet_ap, gsNil_ap, gsCons_ap, gTupD_ap, mSet_ap, mAsg_ap, mPar_ap, mExpr_ap, mRet_ap, mRetN_ap, mNext_ap, mBreak_ap, mCont_ap, mSeq_ap, mIf_ap, iSeq_ap, iRan_ap, iZp_ap, mFor_ap, mWhile_ap, mCall_ap, mkD_ap, mLc_ap, fI_ap, fAdd_ap, fSub_ap, fMul_ap, fMod_ap, fDiv_ap, fPow_ap, fLt_ap, fLe_ap, fGt_ap, fGe_ap, fIsN_ap, fNotN_ap, fIsB_ap, fIx_ap, fAddX_ap, fSubX_ap, fMulX_ap, m1_ap, fNeg_ap, mB1_ap, fLen_ap, fAbs_ap, fInt_ap, fMin2_ap, fMax2_ap, fList_ap, fTuple_ap, fStr_ap, mMt_ap, mMtZ_ap, fAppend_ap, fInsert_ap, fPopAt_ap, oNone_ap, oSome_ap, mSl_ap, gIx_ap, mIsi_ap, fEqX_ap, fNeX_ap, fAll_ap, fAny_ap, fSum_ap, fSorted_ap, fBest_ap, fIdx_ap, fRepr_ap, mPermA_ap, fBack_ap, gSplice_ap, mSortSet_ap, fMulY_ap, mTupRan_ap, fIsX_ap, ia_none_int, ia_none_bool, ia_none_list, ia_none_tuple, ia_none_str, ia_none_seq, ia_bool_int, ia_bool_bool, ia_bool_list, ia_bool_tuple, ia_bool_str, ia_bool_seq, ia_int_int, ia_int_bool, ia_int_list, ia_int_tuple, ia_int_str, ia_int_seq, ia_str_int, ia_str_bool, ia_str_list, ia_str_tuple, ia_str_str, ia_str_seq, ia_list_int, ia_list_bool, ia_list_list, ia_list_tuple, ia_list_str, ia_list_seq, ia_tuple_int, ia_tuple_bool, ia_tuple_list, ia_tuple_tuple, ia_tuple_str, ia_tuple_seq, mLst_ap, mTup_ap, mYes_ap, frz, frzAll, peek, res1, resAll, stoAll, argOf, argsOf, bors, wback, outAt, outsFrom, ownsStay, retv, wipeF, unwipe, sto, isNone, tyD, cY, cMul, cMod, cDiv, cPow, Cell.data, b2n, atI, ixN, fMulL])
    | .str _, o, _ => exact bent_odd (by omega) hs (by omega) o hl hl2 hb hb2 _ (hs.mono (by omega)) (by simp [mVar_ap, mLit_ap, m2_ap, mB_ap, mAndT_ap, mOrT_ap, mNotT_ap, mAndV_ap, mOrV_ap, mNotV_ap, mIfE_ap, mNil_ap, mCons_ap, mDisp_ap, gSet_ap, gsNil_ap, gsCons_ap, gTupD_ap, mSet_ap, mAsg_ap, mPar_ap, mExpr_ap, mRet_ap, mRetN_ap, mNext_ap, mBreak_ap, mCont_ap, mSeq_ap, mIf_ap, iSeq_ap, iRan_ap, iZp_ap, mFor_ap, mWhile_ap, mCall_ap, mkD_ap, mLc_ap, fI_ap, fAdd_ap, fSub_ap, fMul_ap, fMod_ap, fDiv_ap, fPow_ap, fLt_ap, fLe_ap, fGt_ap, fGe_ap, fIsN_ap, fNotN_ap, fIsB_ap, fIx_ap, fAddX_ap, fSubX_ap, fMulX_ap, m1_ap, fNeg_ap, mB1_ap, fLen_ap, fAbs_ap, fInt_ap, fMin2_ap, fMax2_ap, fList_ap, fTuple_ap, fStr_ap, mMt_ap, mMtZ_ap, fAppend_ap, fInsert_ap, fPopAt_ap, oNone_ap, oSome_ap, mSl_ap, gIx_ap, mIsi_ap, fEqX_ap, fNeX_ap, fAll_ap, fAny_ap, fSum_ap, fSorted_ap, fBest_ap, fIdx_ap, fRepr_ap, mPermA_ap, fBack_ap, gSplice_ap, mSortSet_ap, fMulY_ap, mTupRan_ap, fIsX_ap, ia_none_int, ia_none_bool, ia_none_list, ia_none_tuple, ia_none_str, ia_none_seq, ia_bool_int, ia_bool_bool, ia_bool_list, ia_bool_tuple, ia_bool_str, ia_bool_seq, ia_int_int, ia_int_bool, ia_int_list, ia_int_tuple, ia_int_str, ia_int_seq, ia_str_int, ia_str_bool, ia_str_list, ia_str_tuple, ia_str_str, ia_str_seq, ia_list_int, ia_list_bool, ia_list_list, ia_list_tuple, ia_list_str, ia_list_seq, ia_tuple_int, ia_tuple_bool, ia_tuple_list, ia_tuple_tuple, ia_tuple_str, ia_tuple_seq, mLst_ap, mTup_ap, mYes_ap, frz, frzAll, peek, res1, resAll, stoAll, argOf, argsOf, bors, wback, outAt, outsFrom, ownsStay, retv, wipeF, unwipe, sto, isNone, tyD, cY, cMul, cMod, cDiv, cPow, Cell.data, b2n, atI, ixN, fMulL])
    | .dict _, o, _ => simp [Ok] at o
    | .list [], o, _ => exact bent_odd (by omega) hs (by omega) o hl hl2 hb hb2 _ (hs.mono (by omega)) (by simp [mVar_ap, mLit_ap, m2_ap, mB_ap, mAndT_ap, mOrT_ap, mNotT_ap, mAndV_ap, mOrV_ap, mNotV_ap, mIfE_ap, mNil_ap, mCons_ap, mDisp_ap, gSet_ap, gsNil_ap, gsCons_ap, gTupD_ap, mSet_ap, mAsg_ap, mPar_ap, mExpr_ap, mRet_ap, mRetN_ap, mNext_ap, mBreak_ap, mCont_ap, mSeq_ap, mIf_ap, iSeq_ap, iRan_ap, iZp_ap, mFor_ap, mWhile_ap, mCall_ap, mkD_ap, mLc_ap, fI_ap, fAdd_ap, fSub_ap, fMul_ap, fMod_ap, fDiv_ap, fPow_ap, fLt_ap, fLe_ap, fGt_ap, fGe_ap, fIsN_ap, fNotN_ap, fIsB_ap, fIx_ap, fAddX_ap, fSubX_ap, fMulX_ap, m1_ap, fNeg_ap, mB1_ap, fLen_ap, fAbs_ap, fInt_ap, fMin2_ap, fMax2_ap, fList_ap, fTuple_ap, fStr_ap, mMt_ap, mMtZ_ap, fAppend_ap, fInsert_ap, fPopAt_ap, oNone_ap, oSome_ap, mSl_ap, gIx_ap, mIsi_ap, fEqX_ap, fNeX_ap, fAll_ap, fAny_ap, fSum_ap, fSorted_ap, fBest_ap, fIdx_ap, fRepr_ap, mPermA_ap, fBack_ap, gSplice_ap, mSortSet_ap, fMulY_ap, mTupRan_ap, fIsX_ap, ia_none_int, ia_none_bool, ia_none_list, ia_none_tuple, ia_none_str, ia_none_seq, ia_bool_int, ia_bool_bool, ia_bool_list, ia_bool_tuple, ia_bool_str, ia_bool_seq, ia_int_int, ia_int_bool, ia_int_list, ia_int_tuple, ia_int_str, ia_int_seq, ia_str_int, ia_str_bool, ia_str_list, ia_str_tuple, ia_str_str, ia_str_seq, ia_list_int, ia_list_bool, ia_list_list, ia_list_tuple, ia_list_str, ia_list_seq, ia_tuple_int, ia_tuple_bool, ia_tuple_list, ia_tuple_tuple, ia_tuple_str, ia_tuple_seq, mLst_ap, mTup_ap, mYes_ap, frz, frzAll, peek, res1, resAll, stoAll, argOf, argsOf, bors, wback, outAt, outsFrom, ownsStay, retv, wipeF, unwipe, sto, isNone, tyD, cY, cMul, cMod, cDiv, cPow, Cell.data, b2n, atI, ixN, fMulL, shaped_int, eqv_int])
    | .tuple [], o, _ => exact bent_odd (by omega) hs (by omega) o hl hl2 hb hb2 _ (hs.mono (by omega)) (by simp [mVar_ap, mLit_ap, m2_ap, mB_ap, mAndT_ap, mOrT_ap, mNotT_ap, mAndV_ap, mOrV_ap, mNotV_ap, mIfE_ap, mNil_ap, mCons_ap, mDisp_ap, gSet_ap, gsNil_ap, gsCons_ap, gTupD_ap, mSet_ap, mAsg_ap, mPar_ap, mExpr_ap, mRet_ap, mRetN_ap, mNext_ap, mBreak_ap, mCont_ap, mSeq_ap, mIf_ap, iSeq_ap, iRan_ap, iZp_ap, mFor_ap, mWhile_ap, mCall_ap, mkD_ap, mLc_ap, fI_ap, fAdd_ap, fSub_ap, fMul_ap, fMod_ap, fDiv_ap, fPow_ap, fLt_ap, fLe_ap, fGt_ap, fGe_ap, fIsN_ap, fNotN_ap, fIsB_ap, fIx_ap, fAddX_ap, fSubX_ap, fMulX_ap, m1_ap, fNeg_ap, mB1_ap, fLen_ap, fAbs_ap, fInt_ap, fMin2_ap, fMax2_ap, fList_ap, fTuple_ap, fStr_ap, mMt_ap, mMtZ_ap, fAppend_ap, fInsert_ap, fPopAt_ap, oNone_ap, oSome_ap, mSl_ap, gIx_ap, mIsi_ap, fEqX_ap, fNeX_ap, fAll_ap, fAny_ap, fSum_ap, fSorted_ap, fBest_ap, fIdx_ap, fRepr_ap, mPermA_ap, fBack_ap, gSplice_ap, mSortSet_ap, fMulY_ap, mTupRan_ap, fIsX_ap, ia_none_int, ia_none_bool, ia_none_list, ia_none_tuple, ia_none_str, ia_none_seq, ia_bool_int, ia_bool_bool, ia_bool_list, ia_bool_tuple, ia_bool_str, ia_bool_seq, ia_int_int, ia_int_bool, ia_int_list, ia_int_tuple, ia_int_str, ia_int_seq, ia_str_int, ia_str_bool, ia_str_list, ia_str_tuple, ia_str_str, ia_str_seq, ia_list_int, ia_list_bool, ia_list_list, ia_list_tuple, ia_list_str, ia_list_seq, ia_tuple_int, ia_tuple_bool, ia_tuple_list, ia_tuple_tuple, ia_tuple_str, ia_tuple_seq, mLst_ap, mTup_ap, mYes_ap, frz, frzAll, peek, res1, resAll, stoAll, argOf, argsOf, bors, wback, outAt, outsFrom, ownsStay, retv, wipeF, unwipe, sto, isNone, tyD, cY, cMul, cMod, cDiv, cPow, Cell.data, b2n, atI, ixN, fMulL, shaped_int, eqv_int])
    | .list (e :: es), _, main => exact main e es (.inl rfl)
    | .tuple (e :: es), _, main => exact main e es (.inr rfl)
end Lk01

namespace Lk01
open PySem PySem.Spec PyProof.Rows L2 Rf
theorem asc_app {t : Int} : ∀ {gs : List Int}, asc gs = true → (∀ x ∈ gs, x < t) → asc (gs ++ [t]) = true
  | [], _, _ => rfl
  | [x], _, h => by simp [asc]; exact h x (by simp)
  | x :: y :: r, a, h => by
    simp only [asc, Bool.and_eq_true, decide_eq_true_eq] at a
    have ih := asc_app (t := t) (gs := y :: r) a.2 fun z m => h z (List.mem_cons_of_mem _ m)
    simp only [List.cons_append] at ih ⊢
    simp only [asc, Bool.and_eq_true, decide_eq_true_eq]
    exact ⟨a.1, ih⟩
theorem loopM_inv2 {g : MG} {m : MS} (I : Nat → Fm → Prop) (K : Nat) : ∀ (ds : List PyData) (k : Nat) (fm : Fm), (∀ d ∈ ds, ∀ k fm, k < K → I k fm → ∃ fm1 fm2, g d fm = some fm1 ∧ m fm1 = some (.nx, fm2) ∧ I (k + 1) fm2) → k + ds.length ≤ K → I k fm → ∃ fm', loopM g m ds fm = some (.nx, fm') ∧ I (k + ds.length) fm'
  | [], k, fm, _, _, i => ⟨fm, by simp [loopM], by simpa using i⟩
  | d :: ds, k, fm, h, hk, i => by
    simp only [List.length_cons] at hk
    obtain ⟨fm1, fm2, h1, h2, h3⟩ := h d (by simp) k fm (by omega) i
    obtain ⟨fm', e1, e2⟩ := loopM_inv2 (g := g) (m := m) I K ds (k + 1) fm2 (fun e m => h e (by simp [m])) (by omega) h3
    refine ⟨fm', by simp only [loopM, h1, h2, e1], ?_⟩
    have : k + (d :: ds).length = k + 1 + ds.length := by simp; omega
    rw [this]; exact e2
theorem compM_inv2 {g : MG} {me : ME} {vs : List Nat} (I : Nat → Fm → Prop) (P : PyData → Prop) (K : Nat) : ∀ (ds acc : List PyData) (k : Nat) (fm : Fm), (∀ d ∈ ds, ∀ k fm, k < K → I k fm → ∃ fm1 v fm2 r fm3, g d fm = some fm1 ∧ me fm1 = some (v, fm2) ∧ frz v fm2 = some (r, fm3) ∧ P r ∧ I (k + 1) (wipeF fm3 vs)) → k + ds.length ≤ K → I k fm → acc.length + ds.length ≤ sizeLine → (∀ x ∈ acc, P x) →
    ∃ out fm', compM g mYes me vs ds fm acc = some (out, fm') ∧ out.length = acc.length + ds.length ∧ (∀ x ∈ out, P x) ∧ I (k + ds.length) fm'
  | [], acc, k, fm, _, _, i, _, p => ⟨acc, fm, by simp [compM], by simp, p, by simpa using i⟩
  | d :: ds, acc, k, fm, h, hk, i, hs, p => by
    simp only [List.length_cons] at hk
    obtain ⟨fm1, v, fm2, r, fm3, h1, h2, h3, h4, h5⟩ := h d (by simp) k fm (by omega) i
    have h6 : acc.length < sizeLine := by simp at hs; omega
    obtain ⟨out, fm', e1, e2, e3, e4⟩ := compM_inv2 (g := g) (me := me) (vs := vs) I P K ds (acc ++ [r]) (k + 1) (wipeF fm3 vs) (fun e m => h e (by simp [m])) (by omega) h5 (by simp at hs ⊢; omega) (fun x m => by
      rcases List.mem_append.1 m with m | m
      · exact p x m
      · simp at m; subst m; exact h4)
    refine ⟨out, fm', ?_, ?_, e3, ?_⟩
    · simp only [compM, h1, mYes, h2, h3, if_pos h6, e1]
    · simp at e2 ⊢; omega
    · have : k + (d :: ds).length = k + 1 + ds.length := by simp; omega
      rw [this]; exact e4
def GI (C T g : Int) (k : Nat) (fm : Fm) : Prop := ∃ s t x2 gs, fm = [some s, some (.dat (.int T)), x2, some (.dat (.int g)), some (.dat (.int t)), some (.own (.lst (List.map PyData.int gs)))] ∧ Bx (C + 2 + k) s ∧ gs.length = k ∧ asc gs = true ∧ (∀ x ∈ gs, 1 ≤ x ∧ x ≤ t) ∧ 0 ≤ t ∧ t ≤ 2 + k * 10000001
theorem gauges_ok {n : Nat} (hn : 3 ≤ n) {C T : Int} {s : S0} (hs : Bx C s) (hC : C ≤ 1000000) (h0 : 0 ≤ T) (hT : T ≤ 7) :
    ∃ gs s', D_gauges n [s, .dat (.int T)] = some (.dat (.tuple (List.map PyData.int gs)), [s', .dat (.int T)]) ∧ Bx (C + 9) s' ∧ (gs.length : Int) = T ∧ asc gs = true ∧ ∀ x ∈ gs, 1 ≤ x ∧ x ≤ 100000000 := by
  obtain ⟨n, rfl⟩ : ∃ m, n = m + 1 := ⟨n - 1, by omega⟩
  rw [e_gauges]
  obtain ⟨g, s1, hg, a1, a2⟩ := pick_ok (n := n) (by omega) (t := .own (.lst [.int 1, .int 1, .int 3, .int 10000000])) (.inl rfl) hs (by omega) (by simp) (by simp)
  obtain ⟨g, rfl, hg1, hg2⟩ : ∃ g' : Int, g = .int g' ∧ 1 ≤ g' ∧ g' ≤ 10000000 := by
    simp only [List.mem_cons, List.not_mem_nil, or_false] at hg
    rcases hg with rfl | rfl | rfl | rfl
    · exact ⟨1, rfl, by omega, by omega⟩
    · exact ⟨1, rfl, by omega, by omega⟩
    · exact ⟨3, rfl, by omega, by omega⟩
    · exact ⟨10000000, rfl, by omega, by omega⟩
  obtain ⟨t0, s2, b1, b2, b3, b4⟩ := take_ok (n := n) (by omega) a1 (by omega) (k := 3) (by omega) (by omega)
  obtain ⟨q, rfl⟩ := hs.own
  obtain ⟨q1, rfl⟩ := a1.own
  have st1 : mPar [3, 4, 5] (mCons (mCall (D_pick n) (mCons (mVar 0) (mCons (mLst (mCons (mLit (.int 1)) (mCons (mLit (.int 1)) (mCons (mLit (.int 3)) (mCons (m2 fPow (mLit (.int 10)) (mLit (.int 7))) mNil))))) mNil))) (mCons (mCall (D_take n) (mCons (mVar 0) (mCons (mLit (.int 3)) mNil))) (mCons (mLst mNil) mNil))) [some (.own (.lst q)), some (.dat (.int T)), none, none, none, none] = some (.nx, [some s2, some (.dat (.int T)), none, some (.dat (.int g)), some (.dat (.int t0)), some (.own (.lst []))]) := by
    obtain ⟨q2, rfl⟩ := b3.own
    simp [mVar_ap, mLit_ap, m2_ap, mB_ap, mAndT_ap, mOrT_ap, mNotT_ap, mAndV_ap, mOrV_ap, mNotV_ap, mIfE_ap, mNil_ap, mCons_ap, mDisp_ap, gSet_ap, gsNil_ap, gsCons_ap, gTupD_ap, mSet_ap, mAsg_ap, mPar_ap, mExpr_ap, mRet_ap, mRetN_ap, mNext_ap, mBreak_ap, mCont_ap, mSeq_ap, mIf_ap, iSeq_ap, iRan_ap, iZp_ap, mFor_ap, mWhile_ap, mCall_ap, mkD_ap, mLc_ap, fI_ap, fAdd_ap, fSub_ap, fMul_ap, fMod_ap, fDiv_ap, fPow_ap, fLt_ap, fLe_ap, fGt_ap, fGe_ap, fIsN_ap, fNotN_ap, fIsB_ap, fIx_ap, fAddX_ap, fSubX_ap, fMulX_ap, m1_ap, fNeg_ap, mB1_ap, fLen_ap, fAbs_ap, fInt_ap, fMin2_ap, fMax2_ap, fList_ap, fTuple_ap, fStr_ap, mMt_ap, mMtZ_ap, fAppend_ap, fInsert_ap, fPopAt_ap, oNone_ap, oSome_ap, mSl_ap, gIx_ap, mIsi_ap, fEqX_ap, fNeX_ap, fAll_ap, fAny_ap, fSum_ap, fSorted_ap, fBest_ap, fIdx_ap, fRepr_ap, mPermA_ap, fBack_ap, gSplice_ap, mSortSet_ap, fMulY_ap, mTupRan_ap, fIsX_ap, ia_none_int, ia_none_bool, ia_none_list, ia_none_tuple, ia_none_str, ia_none_seq, ia_bool_int, ia_bool_bool, ia_bool_list, ia_bool_tuple, ia_bool_str, ia_bool_seq, ia_int_int, ia_int_bool, ia_int_list, ia_int_tuple, ia_int_str, ia_int_seq, ia_str_int, ia_str_bool, ia_str_list, ia_str_tuple, ia_str_str, ia_str_seq, ia_list_int, ia_list_bool, ia_list_list, ia_list_tuple, ia_list_str, ia_list_seq, ia_tuple_int, ia_tuple_bool, ia_tuple_list, ia_tuple_tuple, ia_tuple_str, ia_tuple_seq, mLst_ap, mTup_ap, mYes_ap, frz, frzAll, peek, res1, resAll, stoAll, argOf, argsOf, bors, wback, outAt, outsFrom, ownsStay, retv, wipeF, unwipe, sto, isNone, tyD, cY, cMul, cMod, cDiv, cPow, Cell.data, b2n, atI, ixN, fMulL, a2, b4, sizeLine_v]
  have hlen : (Rf.intsFrom 0 T.toNat).length = T.toNat := by simp [Rf.intsFrom]
  obtain ⟨fm', l1, l2⟩ := loopM_inv2 (g := gSet 2) (m := mSeq (mSet 4 (m2 fAddX (m2 fAddX (mVar 4) (mLit (.int 1))) (mCall (D_take n) (mCons (mVar 0) (mCons (mVar 3) mNil))))) (mExpr (mMtZ "list" fAppend (mVar 5) (mCons (mVar 4) mNil)))) (GI C T g) 7 (Rf.intsFrom 0 T.toNat) 0 [some s2, some (.dat (.int T)), none, some (.dat (.int g)), some (.dat (.int t0)), some (.own (.lst []))] (by
    intro d m k fm hk i
    obtain ⟨s, t, x2, gs, rfl, i1, i2, i3, i4, i5, i6⟩ := i
    obtain ⟨r, s', c1, c2, c3, c4⟩ := take_ok (n := n) (by omega) i1 (by omega) (k := g) (by omega) (by omega)
    obtain ⟨q3, rfl⟩ := i1.own
    obtain ⟨q4, rfl⟩ := c3.own
    refine ⟨[some (.own (.lst q3)), some (.dat (.int T)), some (.dat d), some (.dat (.int g)), some (.dat (.int t)), some (.own (.lst (List.map PyData.int gs)))], [some (.own (.lst q4)), some (.dat (.int T)), some (.dat d), some (.dat (.int g)), some (.dat (.int (t + 1 + r))), some (.own (.lst (List.map PyData.int gs ++ [.int (t + 1 + r)])))], rfl, ?_, ?_⟩
    · have hq : gs.length < 16777216 := by omega
      simp [mVar_ap, mLit_ap, m2_ap, mB_ap, mAndT_ap, mOrT_ap, mNotT_ap, mAndV_ap, mOrV_ap, mNotV_ap, mIfE_ap, mNil_ap, mCons_ap, mDisp_ap, gSet_ap, gsNil_ap, gsCons_ap, gTupD_ap, mSet_ap, mAsg_ap, mPar_ap, mExpr_ap, mRet_ap, mRetN_ap, mNext_ap, mBreak_ap, mCont_ap, mSeq_ap, mIf_ap, iSeq_ap, iRan_ap, iZp_ap, mFor_ap, mWhile_ap, mCall_ap, mkD_ap, mLc_ap, fI_ap, fAdd_ap, fSub_ap, fMul_ap, fMod_ap, fDiv_ap, fPow_ap, fLt_ap, fLe_ap, fGt_ap, fGe_ap, fIsN_ap, fNotN_ap, fIsB_ap, fIx_ap, fAddX_ap, fSubX_ap, fMulX_ap, m1_ap, fNeg_ap, mB1_ap, fLen_ap, fAbs_ap, fInt_ap, fMin2_ap, fMax2_ap, fList_ap, fTuple_ap, fStr_ap, mMt_ap, mMtZ_ap, fAppend_ap, fInsert_ap, fPopAt_ap, oNone_ap, oSome_ap, mSl_ap, gIx_ap, mIsi_ap, fEqX_ap, fNeX_ap, fAll_ap, fAny_ap, fSum_ap, fSorted_ap, fBest_ap, fIdx_ap, fRepr_ap, mPermA_ap, fBack_ap, gSplice_ap, mSortSet_ap, fMulY_ap, mTupRan_ap, fIsX_ap, ia_none_int, ia_none_bool, ia_none_list, ia_none_tuple, ia_none_str, ia_none_seq, ia_bool_int, ia_bool_bool, ia_bool_list, ia_bool_tuple, ia_bool_str, ia_bool_seq, ia_int_int, ia_int_bool, ia_int_list, ia_int_tuple, ia_int_str, ia_int_seq, ia_str_int, ia_str_bool, ia_str_list, ia_str_tuple, ia_str_str, ia_str_seq, ia_list_int, ia_list_bool, ia_list_list, ia_list_tuple, ia_list_str, ia_list_seq, ia_tuple_int, ia_tuple_bool, ia_tuple_list, ia_tuple_tuple, ia_tuple_str, ia_tuple_seq, mLst_ap, mTup_ap, mYes_ap, frz, frzAll, peek, res1, resAll, stoAll, argOf, argsOf, bors, wback, outAt, outsFrom, ownsStay, retv, wipeF, unwipe, sto, isNone, tyD, cY, cMul, cMod, cDiv, cPow, Cell.data, b2n, atI, ixN, fMulL, c4, sizeLine_v, hq]
    · refine ⟨.own (.lst q4), t + 1 + r, some (.dat d), gs ++ [t + 1 + r], by simp, c3.mono (by omega), by simp [i2], asc_app i3 (fun x m => by have := i4 x m; omega), ?_, by omega, by omega⟩
      intro x m
      rcases List.mem_append.1 m with m | m
      · have := i4 x m; omega
      · simp at m; omega) (by rw [hlen]; omega) ⟨s2, t0, none, [], rfl, b3.mono (by omega), rfl, rfl, by simp, b1, by omega⟩
  rw [hlen] at l2
  obtain ⟨s, t, x2, gs, rfl, i1, i2, i3, i4, i5, i6⟩ := l2
  refine ⟨gs, s, ?_, i1.mono (by omega), by omega, i3, fun x m => by have := i4 x m; omega⟩
  have st2 : mFor (iRan (mCons (mVar 1) mNil)) (gSet 2) (mSeq (mSet 4 (m2 fAddX (m2 fAddX (mVar 4) (mLit (.int 1))) (mCall (D_take n) (mCons (mVar 0) (mCons (mVar 3) mNil))))) (mExpr (mMtZ "list" fAppend (mVar 5) (mCons (mVar 4) mNil)))) [some s2, some (.dat (.int T)), none, some (.dat (.int g)), some (.dat (.int t0)), some (.own (.lst []))] = some (.nx, [some s, some (.dat (.int T)), x2, some (.dat (.int g)), some (.dat (.int t)), some (.own (.lst (List.map PyData.int gs)))]) := by
    have w1 : -4611686018427387904 ≤ T := by omega
    have w2 : T < 4611686018427387904 := by omega
    rw [mFor_ap]
    simp [iRan_ap, mCons_ap, mNil_ap, mVar_ap, w1, w2]
    exact l1
  have whole : b_gauges n [some (.own (.lst q)), some (.dat (.int T)), none, none, none, none] = some (.rt (.dat (.tuple (List.map PyData.int gs))), [some s, some (.dat (.int T)), x2, some (.dat (.int g)), some (.dat (.int t)), some (.own (.lst (List.map PyData.int gs)))]) := by
    unfold b_gauges
    rw [mSeq_nx st1, mSeq_nx st2]
    simp [mVar_ap, mLit_ap, m2_ap, mB_ap, mAndT_ap, mOrT_ap, mNotT_ap, mAndV_ap, mOrV_ap, mNotV_ap, mIfE_ap, mNil_ap, mCons_ap, mDisp_ap, gSet_ap, gsNil_ap, gsCons_ap, gTupD_ap, mSet_ap, mAsg_ap, mPar_ap, mExpr_ap, mRet_ap, mRetN_ap, mNext_ap, mBreak_ap, mCont_ap, mSeq_ap, mIf_ap, iSeq_ap, iRan_ap, iZp_ap, mFor_ap, mWhile_ap, mCall_ap, mkD_ap, mLc_ap, fI_ap, fAdd_ap, fSub_ap, fMul_ap, fMod_ap, fDiv_ap, fPow_ap, fLt_ap, fLe_ap, fGt_ap, fGe_ap, fIsN_ap, fNotN_ap, fIsB_ap, fIx_ap, fAddX_ap, fSubX_ap, fMulX_ap, m1_ap, fNeg_ap, mB1_ap, fLen_ap, fAbs_ap, fInt_ap, fMin2_ap, fMax2_ap, fList_ap, fTuple_ap, fStr_ap, mMt_ap, mMtZ_ap, fAppend_ap, fInsert_ap, fPopAt_ap, oNone_ap, oSome_ap, mSl_ap, gIx_ap, mIsi_ap, fEqX_ap, fNeX_ap, fAll_ap, fAny_ap, fSum_ap, fSorted_ap, fBest_ap, fIdx_ap, fRepr_ap, mPermA_ap, fBack_ap, gSplice_ap, mSortSet_ap, fMulY_ap, mTupRan_ap, fIsX_ap, ia_none_int, ia_none_bool, ia_none_list, ia_none_tuple, ia_none_str, ia_none_seq, ia_bool_int, ia_bool_bool, ia_bool_list, ia_bool_tuple, ia_bool_str, ia_bool_seq, ia_int_int, ia_int_bool, ia_int_list, ia_int_tuple, ia_int_str, ia_int_seq, ia_str_int, ia_str_bool, ia_str_list, ia_str_tuple, ia_str_str, ia_str_seq, ia_list_int, ia_list_bool, ia_list_list, ia_list_tuple, ia_list_str, ia_list_seq, ia_tuple_int, ia_tuple_bool, ia_tuple_list, ia_tuple_tuple, ia_tuple_str, ia_tuple_seq, mLst_ap, mTup_ap, mYes_ap, frz, frzAll, peek, res1, resAll, stoAll, argOf, argsOf, bors, wback, outAt, outsFrom, ownsStay, retv, wipeF, unwipe, sto, isNone, tyD, cY, cMul, cMod, cDiv, cPow, Cell.data, b2n, atI, ixN, fMulL]
  rw [mkD_ap]
  simp only [List.length_cons, List.length_nil, List.map_cons, List.map_nil, List.replicate, List.cons_append, List.nil_append, ↓reduceIte, Nat.reduceAdd, Nat.reduceSub, whole]
  simp [retv, outsFrom, outAt]
/-! shuffled -/
theorem map_erase : ∀ (ls : List Int) (k : Nat), (List.map PyData.int ls).eraseIdx k = List.map PyData.int (ls.eraseIdx k)
  | [], _ => rfl
  | _ :: _, 0 => rfl
  | x :: ls, k + 1 => by simp [map_erase ls k]
theorem while_shuffle {n : Nat} (hn : 1 ≤ n) {d : PyData} (P : Int → Prop) : ∀ (k : Nat) {C : Int} {s : S0} (ls fs : List Int) (N : Nat), ls.length = k → k < N → Bx C s → C + k ≤ 100000000 → ls.length + fs.length ≤ 1000 → (∀ x ∈ ls, P x) → (∀ x ∈ fs, P x) →
    ∃ s' rs, whileM (mB (m2 fNeX (mVar 2) (mLst mNil))) (mExpr (mMtZ "list" fAppend (mVar 3) (mCons (mMt "list" fPopAt (mVar 2) (mCons (mCall (D_take n) (mCons (mVar 0) (mCons (mB1 fLen (mCons (mVar 2) mNil)) mNil))) mNil)) mNil))) N [some s, some (.dat d), some (.own (.lst (List.map PyData.int ls))), some (.own (.lst (List.map PyData.int fs)))] = some (.nx, [some s', some (.dat d), some (.own (.lst [])), some (.own (.lst (List.map PyData.int rs)))]) ∧ Bx (C + k) s' ∧ rs.length = ls.length + fs.length ∧ ∀ x ∈ rs, P x := by
  intro k
  have hnil : SeqAt.shaped (.list []) = true := by simp [SeqAt.shaped, PyData.canLay0, PyData.canLayAll0, PyData.depth, PyData.depthAll]
  induction k with
  | zero =>
    intro C s ls fs N e hN hs hC hl p1 p2
    obtain rfl : ls = [] := by cases ls with | nil => rfl | cons _ _ => simp at e
    obtain ⟨N, rfl⟩ : ∃ m, N = m + 1 := ⟨N - 1, by omega⟩
    refine ⟨s, fs, ?_, by simpa using hs, by simp, p2⟩
    simp [whileM, mVar_ap, mLit_ap, m2_ap, mB_ap, mAndT_ap, mOrT_ap, mNotT_ap, mAndV_ap, mOrV_ap, mNotV_ap, mIfE_ap, mNil_ap, mCons_ap, mDisp_ap, gSet_ap, gsNil_ap, gsCons_ap, gTupD_ap, mSet_ap, mAsg_ap, mPar_ap, mExpr_ap, mRet_ap, mRetN_ap, mNext_ap, mBreak_ap, mCont_ap, mSeq_ap, mIf_ap, iSeq_ap, iRan_ap, iZp_ap, mFor_ap, mWhile_ap, mCall_ap, mkD_ap, mLc_ap, fI_ap, fAdd_ap, fSub_ap, fMul_ap, fMod_ap, fDiv_ap, fPow_ap, fLt_ap, fLe_ap, fGt_ap, fGe_ap, fIsN_ap, fNotN_ap, fIsB_ap, fIx_ap, fAddX_ap, fSubX_ap, fMulX_ap, m1_ap, fNeg_ap, mB1_ap, fLen_ap, fAbs_ap, fInt_ap, fMin2_ap, fMax2_ap, fList_ap, fTuple_ap, fStr_ap, mMt_ap, mMtZ_ap, fAppend_ap, fInsert_ap, fPopAt_ap, oNone_ap, oSome_ap, mSl_ap, gIx_ap, mIsi_ap, fEqX_ap, fNeX_ap, fAll_ap, fAny_ap, fSum_ap, fSorted_ap, fBest_ap, fIdx_ap, fRepr_ap, mPermA_ap, fBack_ap, gSplice_ap, mSortSet_ap, fMulY_ap, mTupRan_ap, fIsX_ap, ia_none_int, ia_none_bool, ia_none_list, ia_none_tuple, ia_none_str, ia_none_seq, ia_bool_int, ia_bool_bool, ia_bool_list, ia_bool_tuple, ia_bool_str, ia_bool_seq, ia_int_int, ia_int_bool, ia_int_list, ia_int_tuple, ia_int_str, ia_int_seq, ia_str_int, ia_str_bool, ia_str_list, ia_str_tuple, ia_str_str, ia_str_seq, ia_list_int, ia_list_bool, ia_list_list, ia_list_tuple, ia_list_str, ia_list_seq, ia_tuple_int, ia_tuple_bool, ia_tuple_list, ia_tuple_tuple, ia_tuple_str, ia_tuple_seq, mLst_ap, mTup_ap, mYes_ap, frz, frzAll, peek, res1, resAll, stoAll, argOf, argsOf, bors, wback, outAt, outsFrom, ownsStay, retv, wipeF, unwipe, sto, isNone, tyD, cY, cMul, cMod, cDiv, cPow, Cell.data, b2n, atI, ixN, fMulL, hnil, PyData.eqv, PyData.eqvAll]
  | succ k ih =>
    intro C s ls fs N e hN hs hC hl p1 p2
    obtain ⟨N, rfl⟩ : ∃ m, N = m + 1 := ⟨N - 1, by omega⟩
    obtain ⟨r, s1, c1, c2, c3, c4⟩ := take_ok (n := n) hn hs (by omega) (k := (ls.length : Nat)) (by omega) (by omega)
    have hr : r.toNat < ls.length := by omega
    obtain ⟨s', rs, w1, w2, w3, w4⟩ := ih (s := s1) (ls.eraseIdx r.toNat) (fs ++ [ls[r.toNat]]) N (by rw [List.length_eraseIdx, if_pos hr]; omega) (by omega) c3 (by omega) (by rw [List.length_eraseIdx, if_pos hr]; simp; omega) (fun x m => p1 x (List.mem_of_mem_eraseIdx m)) (fun x m => by
      rcases List.mem_append.1 m with m | m
      · exact p2 x m
      · simp at m; subst m; exact p1 _ (List.getElem_mem hr))
    refine ⟨s', rs, ?_, w2.mono (by omega), by rw [w3, List.length_eraseIdx, if_pos hr]; simp; omega, w4⟩
    obtain ⟨q, rfl⟩ := hs.own
    obtain ⟨q1, rfl⟩ := c3.own
    have h1 := shaped_ints ls
    have h2 : PyData.eqv (.list (List.map PyData.int ls)) (.list []) = false := by
      cases ls with
      | nil => simp at e
      | cons x l => simp [PyData.eqv, PyData.eqvAll]
    have g1 : (List.map PyData.int ls)[r.toNat]? = some (.int ls[r.toNat]) := by simp [hr]
    have g2 : (List.map PyData.int ls).eraseIdx r.toNat = List.map PyData.int (ls.eraseIdx r.toNat) := map_erase _ _
    have g3 : fs.length < 16777216 := by omega
    have i1 : -9223372036854775808 ≤ r := by omega
    have i2 : r < 9223372036854775808 := by omega
    have i3 : ¬ (r < 0) := by omega
    have body : mExpr (mMtZ "list" fAppend (mVar 3) (mCons (mMt "list" fPopAt (mVar 2) (mCons (mCall (D_take n) (mCons (mVar 0) (mCons (mB1 fLen (mCons (mVar 2) mNil)) mNil))) mNil)) mNil)) [some (.own (.lst q)), some (.dat d), some (.own (.lst (List.map PyData.int ls))), some (.own (.lst (List.map PyData.int fs)))] = some (.nx, [some (.own (.lst q1)), some (.dat d), some (.own (.lst (List.map PyData.int (ls.eraseIdx r.toNat)))), some (.own (.lst (List.map PyData.int (fs ++ [ls[r.toNat]]))))]) := by
      simp [mVar_ap, mLit_ap, m2_ap, mB_ap, mAndT_ap, mOrT_ap, mNotT_ap, mAndV_ap, mOrV_ap, mNotV_ap, mIfE_ap, mNil_ap, mCons_ap, mDisp_ap, gSet_ap, gsNil_ap, gsCons_ap, gTupD_ap, mSet_ap, mAsg_ap, mPar_ap, mExpr_ap, mRet_ap, mRetN_ap, mNext_ap, mBreak_ap, mCont_ap, mSeq_ap, mIf_ap, iSeq_ap, iRan_ap, iZp_ap, mFor_ap, mWhile_ap, mCall_ap, mkD_ap, mLc_ap, fI_ap, fAdd_ap, fSub_ap, fMul_ap, fMod_ap, fDiv_ap, fPow_ap, fLt_ap, fLe_ap, fGt_ap, fGe_ap, fIsN_ap, fNotN_ap, fIsB_ap, fIx_ap, fAddX_ap, fSubX_ap, fMulX_ap, m1_ap, fNeg_ap, mB1_ap, fLen_ap, fAbs_ap, fInt_ap, fMin2_ap, fMax2_ap, fList_ap, fTuple_ap, fStr_ap, mMt_ap, mMtZ_ap, fAppend_ap, fInsert_ap, fPopAt_ap, oNone_ap, oSome_ap, mSl_ap, gIx_ap, mIsi_ap, fEqX_ap, fNeX_ap, fAll_ap, fAny_ap, fSum_ap, fSorted_ap, fBest_ap, fIdx_ap, fRepr_ap, mPermA_ap, fBack_ap, gSplice_ap, mSortSet_ap, fMulY_ap, mTupRan_ap, fIsX_ap, ia_none_int, ia_none_bool, ia_none_list, ia_none_tuple, ia_none_str, ia_none_seq, ia_bool_int, ia_bool_bool, ia_bool_list, ia_bool_tuple, ia_bool_str, ia_bool_seq, ia_int_int, ia_int_bool, ia_int_list, ia_int_tuple, ia_int_str, ia_int_seq, ia_str_int, ia_str_bool, ia_str_list, ia_str_tuple, ia_str_str, ia_str_seq, ia_list_int, ia_list_bool, ia_list_list, ia_list_tuple, ia_list_str, ia_list_seq, ia_tuple_int, ia_tuple_bool, ia_tuple_list, ia_tuple_tuple, ia_tuple_str, ia_tuple_seq, mLst_ap, mTup_ap, mYes_ap, frz, frzAll, peek, res1, resAll, stoAll, argOf, argsOf, bors, wback, outAt, outsFrom, ownsStay, retv, wipeF, unwipe, sto, isNone, tyD, cY, cMul, cMod, cDiv, cPow, Cell.data, b2n, atI, ixN, fMulL, c4, seqIndex?, i1, i2, i3, c1, c2, hr, g3, sizeLine_v, g2]
    have cond : mB (m2 fNeX (mVar 2) (mLst mNil)) [some (.own (.lst q)), some (.dat d), some (.own (.lst (List.map PyData.int ls))), some (.own (.lst (List.map PyData.int fs)))] = some (true, [some (.own (.lst q)), some (.dat d), some (.own (.lst (List.map PyData.int ls))), some (.own (.lst (List.map PyData.int fs)))]) := by
      simp [mVar_ap, mLit_ap, m2_ap, mB_ap, mAndT_ap, mOrT_ap, mNotT_ap, mAndV_ap, mOrV_ap, mNotV_ap, mIfE_ap, mNil_ap, mCons_ap, mDisp_ap, gSet_ap, gsNil_ap, gsCons_ap, gTupD_ap, mSet_ap, mAsg_ap, mPar_ap, mExpr_ap, mRet_ap, mRetN_ap, mNext_ap, mBreak_ap, mCont_ap, mSeq_ap, mIf_ap, iSeq_ap, iRan_ap, iZp_ap, mFor_ap, mWhile_ap, mCall_ap, mkD_ap, mLc_ap, fI_ap, fAdd_ap, fSub_ap, fMul_ap, fMod_ap, fDiv_ap, fPow_ap, fLt_ap, fLe_ap, fGt_ap, fGe_ap, fIsN_ap, fNotN_ap, fIsB_ap, fIx_ap, fAddX_ap, fSubX_ap, fMulX_ap, m1_ap, fNeg_ap, mB1_ap, fLen_ap, fAbs_ap, fInt_ap, fMin2_ap, fMax2_ap, fList_ap, fTuple_ap, fStr_ap, mMt_ap, mMtZ_ap, fAppend_ap, fInsert_ap, fPopAt_ap, oNone_ap, oSome_ap, mSl_ap, gIx_ap, mIsi_ap, fEqX_ap, fNeX_ap, fAll_ap, fAny_ap, fSum_ap, fSorted_ap, fBest_ap, fIdx_ap, fRepr_ap, mPermA_ap, fBack_ap, gSplice_ap, mSortSet_ap, fMulY_ap, mTupRan_ap, fIsX_ap, ia_none_int, ia_none_bool, ia_none_list, ia_none_tuple, ia_none_str, ia_none_seq, ia_bool_int, ia_bool_bool, ia_bool_list, ia_bool_tuple, ia_bool_str, ia_bool_seq, ia_int_int, ia_int_bool, ia_int_list, ia_int_tuple, ia_int_str, ia_int_seq, ia_str_int, ia_str_bool, ia_str_list, ia_str_tuple, ia_str_str, ia_str_seq, ia_list_int, ia_list_bool, ia_list_list, ia_list_tuple, ia_list_str, ia_list_seq, ia_tuple_int, ia_tuple_bool, ia_tuple_list, ia_tuple_tuple, ia_tuple_str, ia_tuple_seq, mLst_ap, mTup_ap, mYes_ap, frz, frzAll, peek, res1, resAll, stoAll, argOf, argsOf, bors, wback, outAt, outsFrom, ownsStay, retv, wipeF, unwipe, sto, isNone, tyD, cY, cMul, cMod, cDiv, cPow, Cell.data, b2n, atI, ixN, fMulL, h1, h2, hnil]
    simp only [whileM, cond, body, w1]
theorem shuffled_ok {n : Nat} (hn : 2 ≤ n) {C : Int} {s : S0} (hs : Bx C s) (hC : C ≤ 1000000) (gs : List Int) (hg : gs.length ≤ 7) :
    ∃ rs s', D_shuffled n [s, .dat (.tuple (List.map PyData.int gs))] = some (.fre (.lst (List.map PyData.int rs)), [s', .dat (.tuple (List.map PyData.int gs))]) ∧ Bx (C + 7) s' ∧ rs.length = gs.length ∧ ∀ x ∈ rs, x ∈ gs := by
  obtain ⟨n, rfl⟩ : ∃ m, n = m + 1 := ⟨n - 1, by omega⟩
  rw [e_shuffled]
  obtain ⟨s', rs, w1, w2, w3, w4⟩ := while_shuffle (n := n) (by omega) (d := .tuple (List.map PyData.int gs)) (fun x => x ∈ gs) gs.length gs [] 100000 rfl (by omega) hs (by omega) (by simp; omega) (fun _ m => m) (by simp)
  refine ⟨rs, s', ?_, w2.mono (by omega), by simpa using w3, w4⟩
  have st1 : mPar [2, 3] (mCons (mB1 fList (mCons (mVar 1) mNil)) (mCons (mLst mNil) mNil)) [some s, some (.dat (.tuple (List.map PyData.int gs))), none, none] = some (.nx, [some s, some (.dat (.tuple (List.map PyData.int gs))), some (.own (.lst (List.map PyData.int gs))), some (.own (.lst []))]) := by
    simp [mVar_ap, mLit_ap, m2_ap, mB_ap, mAndT_ap, mOrT_ap, mNotT_ap, mAndV_ap, mOrV_ap, mNotV_ap, mIfE_ap, mNil_ap, mCons_ap, mDisp_ap, gSet_ap, gsNil_ap, gsCons_ap, gTupD_ap, mSet_ap, mAsg_ap, mPar_ap, mExpr_ap, mRet_ap, mRetN_ap, mNext_ap, mBreak_ap, mCont_ap, mSeq_ap, mIf_ap, iSeq_ap, iRan_ap, iZp_ap, mFor_ap, mWhile_ap, mCall_ap, mkD_ap, mLc_ap, fI_ap, fAdd_ap, fSub_ap, fMul_ap, fMod_ap, fDiv_ap, fPow_ap, fLt_ap, fLe_ap, fGt_ap, fGe_ap, fIsN_ap, fNotN_ap, fIsB_ap, fIx_ap, fAddX_ap, fSubX_ap, fMulX_ap, m1_ap, fNeg_ap, mB1_ap, fLen_ap, fAbs_ap, fInt_ap, fMin2_ap, fMax2_ap, fList_ap, fTuple_ap, fStr_ap, mMt_ap, mMtZ_ap, fAppend_ap, fInsert_ap, fPopAt_ap, oNone_ap, oSome_ap, mSl_ap, gIx_ap, mIsi_ap, fEqX_ap, fNeX_ap, fAll_ap, fAny_ap, fSum_ap, fSorted_ap, fBest_ap, fIdx_ap, fRepr_ap, mPermA_ap, fBack_ap, gSplice_ap, mSortSet_ap, fMulY_ap, mTupRan_ap, fIsX_ap, ia_none_int, ia_none_bool, ia_none_list, ia_none_tuple, ia_none_str, ia_none_seq, ia_bool_int, ia_bool_bool, ia_bool_list, ia_bool_tuple, ia_bool_str, ia_bool_seq, ia_int_int, ia_int_bool, ia_int_list, ia_int_tuple, ia_int_str, ia_int_seq, ia_str_int, ia_str_bool, ia_str_list, ia_str_tuple, ia_str_str, ia_str_seq, ia_list_int, ia_list_bool, ia_list_list, ia_list_tuple, ia_list_str, ia_list_seq, ia_tuple_int, ia_tuple_bool, ia_tuple_list, ia_tuple_tuple, ia_tuple_str, ia_tuple_seq, mLst_ap, mTup_ap, mYes_ap, frz, frzAll, peek, res1, resAll, stoAll, argOf, argsOf, bors, wback, outAt, outsFrom, ownsStay, retv, wipeF, unwipe, sto, isNone, tyD, cY, cMul, cMod, cDiv, cPow, Cell.data, b2n, atI, ixN, fMulL, sizeLine_v]
  have whole : b_shuffled n [some s, some (.dat (.tuple (List.map PyData.int gs))), none, none] = some (.rt (.bor 3), [some s', some (.dat (.tuple (List.map PyData.int gs))), some (.own (.lst [])), some (.own (.lst (List.map PyData.int rs)))]) := by
    unfold b_shuffled
    rw [mSeq_nx st1]
    have w5 := w1
    simp only [List.map_nil] at w5
    rw [mSeq_nx (show mWhile 100000 _ _ _ = _ from w5)]
    simp [mVar_ap, mLit_ap, m2_ap, mB_ap, mAndT_ap, mOrT_ap, mNotT_ap, mAndV_ap, mOrV_ap, mNotV_ap, mIfE_ap, mNil_ap, mCons_ap, mDisp_ap, gSet_ap, gsNil_ap, gsCons_ap, gTupD_ap, mSet_ap, mAsg_ap, mPar_ap, mExpr_ap, mRet_ap, mRetN_ap, mNext_ap, mBreak_ap, mCont_ap, mSeq_ap, mIf_ap, iSeq_ap, iRan_ap, iZp_ap, mFor_ap, mWhile_ap, mCall_ap, mkD_ap, mLc_ap, fI_ap, fAdd_ap, fSub_ap, fMul_ap, fMod_ap, fDiv_ap, fPow_ap, fLt_ap, fLe_ap, fGt_ap, fGe_ap, fIsN_ap, fNotN_ap, fIsB_ap, fIx_ap, fAddX_ap, fSubX_ap, fMulX_ap, m1_ap, fNeg_ap, mB1_ap, fLen_ap, fAbs_ap, fInt_ap, fMin2_ap, fMax2_ap, fList_ap, fTuple_ap, fStr_ap, mMt_ap, mMtZ_ap, fAppend_ap, fInsert_ap, fPopAt_ap, oNone_ap, oSome_ap, mSl_ap, gIx_ap, mIsi_ap, fEqX_ap, fNeX_ap, fAll_ap, fAny_ap, fSum_ap, fSorted_ap, fBest_ap, fIdx_ap, fRepr_ap, mPermA_ap, fBack_ap, gSplice_ap, mSortSet_ap, fMulY_ap, mTupRan_ap, fIsX_ap, ia_none_int, ia_none_bool, ia_none_list, ia_none_tuple, ia_none_str, ia_none_seq, ia_bool_int, ia_bool_bool, ia_bool_list, ia_bool_tuple, ia_bool_str, ia_bool_seq, ia_int_int, ia_int_bool, ia_int_list, ia_int_tuple, ia_int_str, ia_int_seq, ia_str_int, ia_str_bool, ia_str_list, ia_str_tuple, ia_str_str, ia_str_seq, ia_list_int, ia_list_bool, ia_list_list, ia_list_tuple, ia_list_str, ia_list_seq, ia_tuple_int, ia_tuple_bool, ia_tuple_list, ia_tuple_tuple, ia_tuple_str, ia_tuple_seq, mLst_ap, mTup_ap, mYes_ap, frz, frzAll, peek, res1, resAll, stoAll, argOf, argsOf, bors, wback, outAt, outsFrom, ownsStay, retv, wipeF, unwipe, sto, isNone, tyD, cY, cMul, cMod, cDiv, cPow, Cell.data, b2n, atI, ixN, fMulL]
  rw [mkD_ap]
  obtain ⟨q, rfl⟩ := hs.own
  obtain ⟨q1, rfl⟩ := w2.own
  simp only [List.length_cons, List.length_nil, List.map_cons, List.map_nil, List.replicate, List.cons_append, List.nil_append, ↓reduceIte, Nat.reduceAdd, Nat.reduceSub, whole]
  simp [retv, outsFrom, outAt, ownsStay]
end Lk01

namespace Lk01
open PySem PySem.Spec PyProof.Rows L2 Rf
theorem asc_le : ∀ {gs : List Int} {i j : Nat} (hj : j < gs.length) (h : i ≤ j), asc gs = true → gs[i] ≤ gs[j]
  | [], _, _, hj, _, _ => by simp at hj
  | [x], i, j, hj, h, _ => by
    simp at hj; subst hj; obtain rfl : i = 0 := by omega
    simp
  | x :: y :: r, 0, 0, hj, h, a => by simp
  | x :: y :: r, 0, j + 1, hj, h, a => by
    simp only [asc, Bool.and_eq_true, decide_eq_true_eq] at a
    have := asc_le (gs := y :: r) (i := 0) (j := j) (by simpa using hj) (by omega) a.2
    simp only [List.getElem_cons_zero, List.getElem_cons_succ] at this ⊢
    omega
  | x :: y :: r, i + 1, 0, hj, h, a => by omega
  | x :: y :: r, i + 1, j + 1, hj, h, a => by
    have := asc_le (gs := y :: r) (i := i) (j := j) (by simpa using hj) (by omega) (asc_tail a)
    simpa using this
/-- a pair of a shop -/
def Rg (x : PyData) : Prop := ∃ a b : Int, x = .tuple [.int a, .int b] ∧ 1 ≤ a ∧ a ≤ b ∧ b ≤ 200000000
theorem span_ok {n : Nat} (hn : 2 ≤ n) {C v : Int} {s : S0} {gs : List Int} (hs : Bx C s) (hC : C ≤ 1000000) (hv : v ∈ gs) (ha : asc gs = true) (hg : gs.length ≤ 7) (hb : ∀ x ∈ gs, 1 ≤ x ∧ x ≤ 100000000) :
    ∃ r s', D_span n [s, .dat (.tuple (List.map PyData.int gs)), .dat (.int v)] = some (.dat r, [s', .dat (.tuple (List.map PyData.int gs)), .dat (.int v)]) ∧ Bx (C + 5) s' ∧ Rg r := by
  obtain ⟨n, rfl⟩ : ∃ m, n = m + 1 := ⟨n - 1, by omega⟩
  rw [e_span]
  have hk : gs.idxOf v < gs.length := List.idxOf_lt_length_of_mem hv
  generalize hK : gs.idxOf v = K at hk
  obtain ⟨sl, s1, a1, a2, a3, a4⟩ := take_ok (n := n) (by omega) hs (by omega) (k := 5) (by omega) (by omega)
  obtain ⟨t2, s2, b1, b2, b3, b4⟩ := take_ok (n := n) (by omega) a3 (by omega) (k := sl + 1) (by omega) (by omega)
  obtain ⟨m, hm⟩ : ∃ m : Int, m = (if sl < (K : Int) then sl else K) := ⟨_, rfl⟩
  have hm1 : 0 ≤ m ∧ m ≤ K := by rw [hm]; split <;> omega
  obtain ⟨la, hla⟩ : ∃ la : Int, la = (if (K : Int) + t2 < (gs.length : Int) - 1 then (K : Int) + t2 else (gs.length : Int) - 1) := ⟨_, rfl⟩
  have hla1 : K ≤ la ∧ la < gs.length := by rw [hla]; split <;> omega
  obtain ⟨t3, s3, c1, c2, c3, c4⟩ := take_ok (n := n) (by omega) b3 (by omega) (k := (K : Int) - (K - m) + 1) (by omega) (by omega)
  obtain ⟨t4, s4, d1, d2, d3, d4⟩ := take_ok (n := n) (by omega) c3 (by omega) (k := 2) (by omega) (by omega)
  obtain ⟨t5, s5, e1, e2, e3, e4⟩ := take_ok (n := n) (by omega) d3 (by omega) (k := 2) (by omega) (by omega)
  have hi : (t3 + ((K : Int) - m)).toNat < gs.length := by omega
  have hj : la.toNat < gs.length := by omega
  have le1 := asc_le (gs := gs) (i := (t3 + ((K : Int) - m)).toNat) (j := la.toNat) hj (by omega) ha
  have bo := hb _ (List.getElem_mem hi)
  have to := hb _ (List.getElem_mem hj)
  generalize hB : gs[(t3 + ((K : Int) - m)).toNat] = B at le1 bo
  generalize hT : gs[la.toNat] = T at le1 to
  refine ⟨.tuple [.int (B - (if t4 < B - 1 then t4 else B - 1)), .int (T + t5)], s5, ?_, e3.mono (by omega), ⟨_, _, rfl, by split <;> omega, by split <;> omega, by omega⟩⟩
  obtain ⟨q, rfl⟩ := hs.own
  obtain ⟨q1, rfl⟩ := a3.own
  obtain ⟨q2, rfl⟩ := b3.own
  obtain ⟨q3, rfl⟩ := c3.own
  obtain ⟨q4, rfl⟩ := d3.own
  obtain ⟨q5, rfl⟩ := e3.own
  have ix1 : atI (List.map PyData.int gs) (t3 + ((K : Int) - m)) = some (.int B) := by
    have x1 : 0 ≤ t3 + ((K : Int) - m) := by omega
    have x2 : t3 + ((K : Int) - m) < gs.length := by omega
    simp [atI, ixN, x1, x2, hi, hB]
  have ix2 : atI (List.map PyData.int gs) la = some (.int T) := by
    have x1 : 0 ≤ la := by omega
    have x2 : la < gs.length := by omega
    simp [atI, ixN, x1, x2, hj, hT]
  have hin := intsD_map gs
  have hl : (List.map PyData.int gs).length = gs.length := by simp
  generalize List.map PyData.int gs = ds at ix1 ix2 hin hl
  have st1 : mPar [3, 4] (mCons (mIndex (mVar 1) (mCons (mVar 2) mNil)) (mCons (mCall (D_take n) (mCons (mVar 0) (mCons (mLit (.int 5)) mNil))) mNil)) [some (.own (.lst q)), some (.dat (.tuple ds)), some (.dat (.int v)), none, none, none, none, none, none] = some (.nx, [some (.own (.lst q1)), some (.dat (.tuple ds)), some (.dat (.int v)), some (.dat (.int K)), some (.dat (.int sl)), none, none, none, none]) := by
    simp [mVar_ap, mLit_ap, m2_ap, mB_ap, mAndT_ap, mOrT_ap, mNotT_ap, mAndV_ap, mOrV_ap, mNotV_ap, mIfE_ap, mNil_ap, mCons_ap, mDisp_ap, gSet_ap, gsNil_ap, gsCons_ap, gTupD_ap, mSet_ap, mAsg_ap, mPar_ap, mExpr_ap, mRet_ap, mRetN_ap, mNext_ap, mBreak_ap, mCont_ap, mSeq_ap, mIf_ap, iSeq_ap, iRan_ap, iZp_ap, mFor_ap, mWhile_ap, mCall_ap, mkD_ap, mLc_ap, fI_ap, fAdd_ap, fSub_ap, fMul_ap, fMod_ap, fDiv_ap, fPow_ap, fLt_ap, fLe_ap, fGt_ap, fGe_ap, fIsN_ap, fNotN_ap, fIsB_ap, fIx_ap, fAddX_ap, fSubX_ap, fMulX_ap, m1_ap, fNeg_ap, mB1_ap, fLen_ap, fAbs_ap, fInt_ap, fMin2_ap, fMax2_ap, fList_ap, fTuple_ap, fStr_ap, mMt_ap, mMtZ_ap, fAppend_ap, fInsert_ap, fPopAt_ap, oNone_ap, oSome_ap, mSl_ap, gIx_ap, mIsi_ap, fEqX_ap, fNeX_ap, fAll_ap, fAny_ap, fSum_ap, fSorted_ap, fBest_ap, fIdx_ap, fRepr_ap, mPermA_ap, fBack_ap, gSplice_ap, mSortSet_ap, fMulY_ap, mTupRan_ap, fIsX_ap, ia_none_int, ia_none_bool, ia_none_list, ia_none_tuple, ia_none_str, ia_none_seq, ia_bool_int, ia_bool_bool, ia_bool_list, ia_bool_tuple, ia_bool_str, ia_bool_seq, ia_int_int, ia_int_bool, ia_int_list, ia_int_tuple, ia_int_str, ia_int_seq, ia_str_int, ia_str_bool, ia_str_list, ia_str_tuple, ia_str_str, ia_str_seq, ia_list_int, ia_list_bool, ia_list_list, ia_list_tuple, ia_list_str, ia_list_seq, ia_tuple_int, ia_tuple_bool, ia_tuple_list, ia_tuple_tuple, ia_tuple_str, ia_tuple_seq, mLst_ap, mTup_ap, mYes_ap, frz, frzAll, peek, res1, resAll, stoAll, argOf, argsOf, bors, wback, outAt, outsFrom, ownsStay, retv, wipeF, unwipe, sto, isNone, tyD, cY, cMul, cMod, cDiv, cPow, Cell.data, b2n, fMulL, mIndex_ap, a4, hin, hv, hK]
  have st2 : mPar [5, 6] (mCons (m2 fSubX (mVar 3) (mB1 fMin2 (mCons (mVar 3) (mCons (mVar 4) mNil)))) (mCons (mB1 fMin2 (mCons (m2 fSubX (mB1 fLen (mCons (mVar 1) mNil)) (mLit (.int 1))) (mCons (m2 fAddX (mVar 3) (mCall (D_take n) (mCons (mVar 0) (mCons (m2 fAddX (mVar 4) (mLit (.int 1))) mNil)))) mNil))) mNil)) [some (.own (.lst q1)), some (.dat (.tuple ds)), some (.dat (.int v)), some (.dat (.int K)), some (.dat (.int sl)), none, none, none, none] = some (.nx, [some (.own (.lst q2)), some (.dat (.tuple ds)), some (.dat (.int v)), some (.dat (.int K)), some (.dat (.int sl)), some (.dat (.int (K - m))), some (.dat (.int la)), none, none]) := by
    simp [mVar_ap, mLit_ap, m2_ap, mB_ap, mAndT_ap, mOrT_ap, mNotT_ap, mAndV_ap, mOrV_ap, mNotV_ap, mIfE_ap, mNil_ap, mCons_ap, mDisp_ap, gSet_ap, gsNil_ap, gsCons_ap, gTupD_ap, mSet_ap, mAsg_ap, mPar_ap, mExpr_ap, mRet_ap, mRetN_ap, mNext_ap, mBreak_ap, mCont_ap, mSeq_ap, mIf_ap, iSeq_ap, iRan_ap, iZp_ap, mFor_ap, mWhile_ap, mCall_ap, mkD_ap, mLc_ap, fI_ap, fAdd_ap, fSub_ap, fMul_ap, fMod_ap, fDiv_ap, fPow_ap, fLt_ap, fLe_ap, fGt_ap, fGe_ap, fIsN_ap, fNotN_ap, fIsB_ap, fIx_ap, fAddX_ap, fSubX_ap, fMulX_ap, m1_ap, fNeg_ap, mB1_ap, fLen_ap, fAbs_ap, fInt_ap, fMin2_ap, fMax2_ap, fList_ap, fTuple_ap, fStr_ap, mMt_ap, mMtZ_ap, fAppend_ap, fInsert_ap, fPopAt_ap, oNone_ap, oSome_ap, mSl_ap, gIx_ap, mIsi_ap, fEqX_ap, fNeX_ap, fAll_ap, fAny_ap, fSum_ap, fSorted_ap, fBest_ap, fIdx_ap, fRepr_ap, mPermA_ap, fBack_ap, gSplice_ap, mSortSet_ap, fMulY_ap, mTupRan_ap, fIsX_ap, ia_none_int, ia_none_bool, ia_none_list, ia_none_tuple, ia_none_str, ia_none_seq, ia_bool_int, ia_bool_bool, ia_bool_list, ia_bool_tuple, ia_bool_str, ia_bool_seq, ia_int_int, ia_int_bool, ia_int_list, ia_int_tuple, ia_int_str, ia_int_seq, ia_str_int, ia_str_bool, ia_str_list, ia_str_tuple, ia_str_str, ia_str_seq, ia_list_int, ia_list_bool, ia_list_list, ia_list_tuple, ia_list_str, ia_list_seq, ia_tuple_int, ia_tuple_bool, ia_tuple_list, ia_tuple_tuple, ia_tuple_str, ia_tuple_seq, mLst_ap, mTup_ap, mYes_ap, frz, frzAll, peek, res1, resAll, stoAll, argOf, argsOf, bors, wback, outAt, outsFrom, ownsStay, retv, wipeF, unwipe, sto, isNone, tyD, cY, cMul, cMod, cDiv, cPow, Cell.data, b2n, fMulL, b4, hl, ← hm, ← hla]
  have st3 : mPar [7, 8] (mCons (m2 fIx (mVar 1) (m2 fAddX (mCall (D_take n) (mCons (mVar 0) (mCons (m2 fAddX (m2 fSubX (mVar 3) (mVar 5)) (mLit (.int 1))) mNil))) (mVar 5))) (mCons (m2 fIx (mVar 1) (mVar 6)) mNil)) [some (.own (.lst q2)), some (.dat (.tuple ds)), some (.dat (.int v)), some (.dat (.int K)), some (.dat (.int sl)), some (.dat (.int (K - m))), some (.dat (.int la)), none, none] = some (.nx, [some (.own (.lst q3)), some (.dat (.tuple ds)), some (.dat (.int v)), some (.dat (.int K)), some (.dat (.int sl)), some (.dat (.int (K - m))), some (.dat (.int la)), some (.dat (.int B)), some (.dat (.int T))]) := by
    simp [mVar_ap, mLit_ap, m2_ap, mB_ap, mAndT_ap, mOrT_ap, mNotT_ap, mAndV_ap, mOrV_ap, mNotV_ap, mIfE_ap, mNil_ap, mCons_ap, mDisp_ap, gSet_ap, gsNil_ap, gsCons_ap, gTupD_ap, mSet_ap, mAsg_ap, mPar_ap, mExpr_ap, mRet_ap, mRetN_ap, mNext_ap, mBreak_ap, mCont_ap, mSeq_ap, mIf_ap, iSeq_ap, iRan_ap, iZp_ap, mFor_ap, mWhile_ap, mCall_ap, mkD_ap, mLc_ap, fI_ap, fAdd_ap, fSub_ap, fMul_ap, fMod_ap, fDiv_ap, fPow_ap, fLt_ap, fLe_ap, fGt_ap, fGe_ap, fIsN_ap, fNotN_ap, fIsB_ap, fIx_ap, fAddX_ap, fSubX_ap, fMulX_ap, m1_ap, fNeg_ap, mB1_ap, fLen_ap, fAbs_ap, fInt_ap, fMin2_ap, fMax2_ap, fList_ap, fTuple_ap, fStr_ap, mMt_ap, mMtZ_ap, fAppend_ap, fInsert_ap, fPopAt_ap, oNone_ap, oSome_ap, mSl_ap, gIx_ap, mIsi_ap, fEqX_ap, fNeX_ap, fAll_ap, fAny_ap, fSum_ap, fSorted_ap, fBest_ap, fIdx_ap, fRepr_ap, mPermA_ap, fBack_ap, gSplice_ap, mSortSet_ap, fMulY_ap, mTupRan_ap, fIsX_ap, ia_none_int, ia_none_bool, ia_none_list, ia_none_tuple, ia_none_str, ia_none_seq, ia_bool_int, ia_bool_bool, ia_bool_list, ia_bool_tuple, ia_bool_str, ia_bool_seq, ia_int_int, ia_int_bool, ia_int_list, ia_int_tuple, ia_int_str, ia_int_seq, ia_str_int, ia_str_bool, ia_str_list, ia_str_tuple, ia_str_str, ia_str_seq, ia_list_int, ia_list_bool, ia_list_list, ia_list_tuple, ia_list_str, ia_list_seq, ia_tuple_int, ia_tuple_bool, ia_tuple_list, ia_tuple_tuple, ia_tuple_str, ia_tuple_seq, mLst_ap, mTup_ap, mYes_ap, frz, frzAll, peek, res1, resAll, stoAll, argOf, argsOf, bors, wback, outAt, outsFrom, ownsStay, retv, wipeF, unwipe, sto, isNone, tyD, cY, cMul, cMod, cDiv, cPow, Cell.data, b2n, fMulL, c4, ix1, ix2]
  have whole : b_span n [some (.own (.lst q)), some (.dat (.tuple ds)), some (.dat (.int v)), none, none, none, none, none, none] = some (.rt (.dat (.tuple [.int (B - (if t4 < B - 1 then t4 else B - 1)), .int (T + t5)])), [some (.own (.lst q5)), some (.dat (.tuple ds)), some (.dat (.int v)), some (.dat (.int K)), some (.dat (.int sl)), some (.dat (.int (K - m))), some (.dat (.int la)), some (.dat (.int B)), some (.dat (.int T))]) := by
    unfold b_span
    rw [mSeq_nx st1, mSeq_nx st2, mSeq_nx st3]
    simp [mVar_ap, mLit_ap, m2_ap, mB_ap, mAndT_ap, mOrT_ap, mNotT_ap, mAndV_ap, mOrV_ap, mNotV_ap, mIfE_ap, mNil_ap, mCons_ap, mDisp_ap, gSet_ap, gsNil_ap, gsCons_ap, gTupD_ap, mSet_ap, mAsg_ap, mPar_ap, mExpr_ap, mRet_ap, mRetN_ap, mNext_ap, mBreak_ap, mCont_ap, mSeq_ap, mIf_ap, iSeq_ap, iRan_ap, iZp_ap, mFor_ap, mWhile_ap, mCall_ap, mkD_ap, mLc_ap, fI_ap, fAdd_ap, fSub_ap, fMul_ap, fMod_ap, fDiv_ap, fPow_ap, fLt_ap, fLe_ap, fGt_ap, fGe_ap, fIsN_ap, fNotN_ap, fIsB_ap, fIx_ap, fAddX_ap, fSubX_ap, fMulX_ap, m1_ap, fNeg_ap, mB1_ap, fLen_ap, fAbs_ap, fInt_ap, fMin2_ap, fMax2_ap, fList_ap, fTuple_ap, fStr_ap, mMt_ap, mMtZ_ap, fAppend_ap, fInsert_ap, fPopAt_ap, oNone_ap, oSome_ap, mSl_ap, gIx_ap, mIsi_ap, fEqX_ap, fNeX_ap, fAll_ap, fAny_ap, fSum_ap, fSorted_ap, fBest_ap, fIdx_ap, fRepr_ap, mPermA_ap, fBack_ap, gSplice_ap, mSortSet_ap, fMulY_ap, mTupRan_ap, fIsX_ap, ia_none_int, ia_none_bool, ia_none_list, ia_none_tuple, ia_none_str, ia_none_seq, ia_bool_int, ia_bool_bool, ia_bool_list, ia_bool_tuple, ia_bool_str, ia_bool_seq, ia_int_int, ia_int_bool, ia_int_list, ia_int_tuple, ia_int_str, ia_int_seq, ia_str_int, ia_str_bool, ia_str_list, ia_str_tuple, ia_str_str, ia_str_seq, ia_list_int, ia_list_bool, ia_list_list, ia_list_tuple, ia_list_str, ia_list_seq, ia_tuple_int, ia_tuple_bool, ia_tuple_list, ia_tuple_tuple, ia_tuple_str, ia_tuple_seq, mLst_ap, mTup_ap, mYes_ap, frz, frzAll, peek, res1, resAll, stoAll, argOf, argsOf, bors, wback, outAt, outsFrom, ownsStay, retv, wipeF, unwipe, sto, isNone, tyD, cY, cMul, cMod, cDiv, cPow, Cell.data, b2n, fMulL, d4, e4, sizeLine_v]
  rw [mkD_ap]
  simp only [List.length_cons, List.length_nil, List.map_cons, List.map_nil, List.replicate, List.cons_append, List.nil_append, ↓reduceIte, Nat.reduceAdd, Nat.reduceSub, whole]
  simp [retv, outsFrom, outAt]
theorem cut_first {ds : List PyData} {c : Int} (h0 : 0 ≤ c) (h1 : c ≤ ds.length) : ((Rf.cutD ds none (some c)).length : Int) = c := by
  have e1 : HT.sIx ds.length 0 none = 0 := rfl
  have e2 : HT.sIx ds.length ds.length (some c) = c.toNat := by simp only [HT.sIx]; rw [if_neg (by omega)]; omega
  simp only [Rf.cutD, List.length_take, List.length_drop, e1, e2]
  omega
/-- a plant: a shop, and small -/
def Plt (p : PyData) : Prop := ∃ gs : List Int, ∃ rs : List PyData, p = .tuple [.tuple (List.map PyData.int gs), .tuple rs] ∧ gs ≠ [] ∧ gs.length ≤ 7 ∧ asc gs = true ∧ (∀ x ∈ gs, 1 ≤ x ∧ x ≤ 100000000) ∧ rs ≠ [] ∧ rs.length ≤ 7 ∧ ∀ x ∈ rs, Rg x
theorem plant_made {n : Nat} (hn : 5 ≤ n) {C : Int} {s : S0} (hs : Bx C s) (hC : C ≤ 900000) :
    ∃ p st s', D_plant n [s, .dat (.int 5), .dat (.int 7)] = some (.dat (.tuple [p, st]), [s', .dat (.int 5), .dat (.int 7)]) ∧ Bx (C + 100) s' ∧ Plt p := by
  obtain ⟨n, rfl⟩ : ∃ m, n = m + 1 := ⟨n - 1, by omega⟩
  rw [e_plant]
  obtain ⟨r, s1, a1, a2, a3, a4⟩ := take_ok (n := n) (by omega) hs (by omega) (k := 5) (by omega) (by omega)
  obtain ⟨u, s2, b1, b2, b3, b4⟩ := take_ok (n := n) (by omega) a3 (by omega) (k := 7 - (1 + r) + 1) (by omega) (by omega)
  obtain ⟨T, hT⟩ : ∃ T : Int, T = (if 1 + r + u < 7 then 1 + r + u else 7) := ⟨_, rfl⟩
  have hT1 : 1 + r ≤ T ∧ T ≤ 7 := by rw [hT]; split <;> omega
  obtain ⟨gs, s3, c1, c2, c3, c4, c5⟩ := gauges_ok (n := n) (by omega) b3 (by omega) (T := T) (by omega) (by omega)
  obtain ⟨ps, s4, d1, d2, d3, d4⟩ := shuffled_ok (n := n) (by omega) c2 (by omega) gs (by omega)
  obtain ⟨cs, hcs⟩ : ∃ cs, cs = Rf.cutD (List.map PyData.int ps) none (some (1 + r)) := ⟨_, rfl⟩
  have hcl : (cs.length : Int) = 1 + r := by rw [hcs]; exact cut_first (by omega) (by simp; omega)
  have hcm : ∀ x ∈ cs, ∃ v, x = .int v ∧ v ∈ gs := by
    intro x m
    rw [hcs] at m
    obtain ⟨v, hv, rfl⟩ := List.mem_map.1 (cut_mem m)
    exact ⟨v, rfl, d4 v hv⟩
  obtain ⟨out, fm', e1, e2, e3, e4⟩ := compM_inv2 (g := gSet 6) (me := mCall (D_span n) (mCons (mVar 0) (mCons (mVar 4) (mCons (mVar 6) mNil)))) (vs := [6]) (fun k fm => ∃ s, fm = [some s, some (.dat (.int 5)), some (.dat (.int 7)), some (.dat (.int (1 + r))), some (.dat (.tuple (List.map PyData.int gs))), some (.dat (.tuple cs)), none] ∧ Bx (C + 20 + 5 * k) s) Rg 7 cs [] 0 [some s4, some (.dat (.int 5)), some (.dat (.int 7)), some (.dat (.int (1 + r))), some (.dat (.tuple (List.map PyData.int gs))), some (.dat (.tuple cs)), none] (by
    intro d m k fm hk i
    obtain ⟨s, rfl, i1⟩ := i
    obtain ⟨v, rfl, hv⟩ := hcm d m
    obtain ⟨x, s', f1, f2, f3⟩ := span_ok (n := n) (by omega) i1 (by omega) hv c4 (by omega) c5
    obtain ⟨q, rfl⟩ := i1.own
    refine ⟨[some (.own (.lst q)), some (.dat (.int 5)), some (.dat (.int 7)), some (.dat (.int (1 + r))), some (.dat (.tuple (List.map PyData.int gs))), some (.dat (.tuple cs)), some (.dat (.int v))], .dat x, [some s', some (.dat (.int 5)), some (.dat (.int 7)), some (.dat (.int (1 + r))), some (.dat (.tuple (List.map PyData.int gs))), some (.dat (.tuple cs)), some (.dat (.int v))], x, [some s', some (.dat (.int 5)), some (.dat (.int 7)), some (.dat (.int (1 + r))), some (.dat (.tuple (List.map PyData.int gs))), some (.dat (.tuple cs)), some (.dat (.int v))], rfl, ?_, rfl, f3, ⟨s', by simp [wipeF], f2.mono (by omega)⟩⟩
    simp [mVar_ap, mLit_ap, m2_ap, mB_ap, mAndT_ap, mOrT_ap, mNotT_ap, mAndV_ap, mOrV_ap, mNotV_ap, mIfE_ap, mNil_ap, mCons_ap, mDisp_ap, gSet_ap, gsNil_ap, gsCons_ap, gTupD_ap, mSet_ap, mAsg_ap, mPar_ap, mExpr_ap, mRet_ap, mRetN_ap, mNext_ap, mBreak_ap, mCont_ap, mSeq_ap, mIf_ap, iSeq_ap, iRan_ap, iZp_ap, mFor_ap, mWhile_ap, mCall_ap, mkD_ap, mLc_ap, fI_ap, fAdd_ap, fSub_ap, fMul_ap, fMod_ap, fDiv_ap, fPow_ap, fLt_ap, fLe_ap, fGt_ap, fGe_ap, fIsN_ap, fNotN_ap, fIsB_ap, fIx_ap, fAddX_ap, fSubX_ap, fMulX_ap, m1_ap, fNeg_ap, mB1_ap, fLen_ap, fAbs_ap, fInt_ap, fMin2_ap, fMax2_ap, fList_ap, fTuple_ap, fStr_ap, mMt_ap, mMtZ_ap, fAppend_ap, fInsert_ap, fPopAt_ap, oNone_ap, oSome_ap, mSl_ap, gIx_ap, mIsi_ap, fEqX_ap, fNeX_ap, fAll_ap, fAny_ap, fSum_ap, fSorted_ap, fBest_ap, fIdx_ap, fRepr_ap, mPermA_ap, fBack_ap, gSplice_ap, mSortSet_ap, fMulY_ap, mTupRan_ap, fIsX_ap, ia_none_int, ia_none_bool, ia_none_list, ia_none_tuple, ia_none_str, ia_none_seq, ia_bool_int, ia_bool_bool, ia_bool_list, ia_bool_tuple, ia_bool_str, ia_bool_seq, ia_int_int, ia_int_bool, ia_int_list, ia_int_tuple, ia_int_str, ia_int_seq, ia_str_int, ia_str_bool, ia_str_list, ia_str_tuple, ia_str_str, ia_str_seq, ia_list_int, ia_list_bool, ia_list_list, ia_list_tuple, ia_list_str, ia_list_seq, ia_tuple_int, ia_tuple_bool, ia_tuple_list, ia_tuple_tuple, ia_tuple_str, ia_tuple_seq, mLst_ap, mTup_ap, mYes_ap, frz, frzAll, peek, res1, resAll, stoAll, argOf, argsOf, bors, wback, outAt, outsFrom, ownsStay, retv, wipeF, unwipe, sto, isNone, tyD, cY, cMul, cMod, cDiv, cPow, Cell.data, b2n, fMulL, f1]) (by omega) ⟨s4, rfl, d2.mono (by omega)⟩ (by rw [sizeLine_v]; simp; omega) (by simp)
  obtain ⟨s5, rfl, hs5⟩ := e4
  refine ⟨.tuple [.tuple (List.map PyData.int gs), .tuple out], .tuple cs, s5, ?_, hs5.mono (by omega), ⟨gs, out, rfl, ?_, by omega, c4, c5, ?_, by simp at e2; omega, e3⟩⟩
  case refine_2 => intro h; subst h; simp at c3; omega
  case refine_3 => intro h; subst h; simp at e2; omega
  obtain ⟨q, rfl⟩ := hs.own
  obtain ⟨q1, rfl⟩ := a3.own
  obtain ⟨q2, rfl⟩ := b3.own
  obtain ⟨q3, rfl⟩ := c2.own
  obtain ⟨q4, rfl⟩ := d2.own
  have st1 : mSet 3 (m2 fAddX (mLit (.int 1)) (mCall (D_take n) (mCons (mVar 0) (mCons (mVar 1) mNil)))) [some (.own (.lst q)), some (.dat (.int 5)), some (.dat (.int 7)), none, none, none, none] = some (.nx, [some (.own (.lst q1)), some (.dat (.int 5)), some (.dat (.int 7)), some (.dat (.int (1 + r))), none, none, none]) := by
    simp [mVar_ap, mLit_ap, m2_ap, mB_ap, mAndT_ap, mOrT_ap, mNotT_ap, mAndV_ap, mOrV_ap, mNotV_ap, mIfE_ap, mNil_ap, mCons_ap, mDisp_ap, gSet_ap, gsNil_ap, gsCons_ap, gTupD_ap, mSet_ap, mAsg_ap, mPar_ap, mExpr_ap, mRet_ap, mRetN_ap, mNext_ap, mBreak_ap, mCont_ap, mSeq_ap, mIf_ap, iSeq_ap, iRan_ap, iZp_ap, mFor_ap, mWhile_ap, mCall_ap, mkD_ap, mLc_ap, fI_ap, fAdd_ap, fSub_ap, fMul_ap, fMod_ap, fDiv_ap, fPow_ap, fLt_ap, fLe_ap, fGt_ap, fGe_ap, fIsN_ap, fNotN_ap, fIsB_ap, fIx_ap, fAddX_ap, fSubX_ap, fMulX_ap, m1_ap, fNeg_ap, mB1_ap, fLen_ap, fAbs_ap, fInt_ap, fMin2_ap, fMax2_ap, fList_ap, fTuple_ap, fStr_ap, mMt_ap, mMtZ_ap, fAppend_ap, fInsert_ap, fPopAt_ap, oNone_ap, oSome_ap, mSl_ap, gIx_ap, mIsi_ap, fEqX_ap, fNeX_ap, fAll_ap, fAny_ap, fSum_ap, fSorted_ap, fBest_ap, fIdx_ap, fRepr_ap, mPermA_ap, fBack_ap, gSplice_ap, mSortSet_ap, fMulY_ap, mTupRan_ap, fIsX_ap, ia_none_int, ia_none_bool, ia_none_list, ia_none_tuple, ia_none_str, ia_none_seq, ia_bool_int, ia_bool_bool, ia_bool_list, ia_bool_tuple, ia_bool_str, ia_bool_seq, ia_int_int, ia_int_bool, ia_int_list, ia_int_tuple, ia_int_str, ia_int_seq, ia_str_int, ia_str_bool, ia_str_list, ia_str_tuple, ia_str_str, ia_str_seq, ia_list_int, ia_list_bool, ia_list_list, ia_list_tuple, ia_list_str, ia_list_seq, ia_tuple_int, ia_tuple_bool, ia_tuple_list, ia_tuple_tuple, ia_tuple_str, ia_tuple_seq, mLst_ap, mTup_ap, mYes_ap, frz, frzAll, peek, res1, resAll, stoAll, argOf, argsOf, bors, wback, outAt, outsFrom, ownsStay, retv, wipeF, unwipe, sto, isNone, tyD, cY, cMul, cMod, cDiv, cPow, Cell.data, b2n, fMulL, a4]
  have st2 : mSet 4 (mCall (D_gauges n) (mCons (mVar 0) (mCons (mB1 fMin2 (mCons (mVar 2) (mCons (m2 fAddX (mVar 3) (mCall (D_take n) (mCons (mVar 0) (mCons (m2 fAddX (m2 fSubX (mVar 2) (mVar 3)) (mLit (.int 1))) mNil)))) mNil))) mNil))) [some (.own (.lst q1)), some (.dat (.int 5)), some (.dat (.int 7)), some (.dat (.int (1 + r))), none, none, none] = some (.nx, [some (.own (.lst q3)), some (.dat (.int 5)), some (.dat (.int 7)), some (.dat (.int (1 + r))), some (.dat (.tuple (List.map PyData.int gs))), none, none]) := by
    simp [mVar_ap, mLit_ap, m2_ap, mB_ap, mAndT_ap, mOrT_ap, mNotT_ap, mAndV_ap, mOrV_ap, mNotV_ap, mIfE_ap, mNil_ap, mCons_ap, mDisp_ap, gSet_ap, gsNil_ap, gsCons_ap, gTupD_ap, mSet_ap, mAsg_ap, mPar_ap, mExpr_ap, mRet_ap, mRetN_ap, mNext_ap, mBreak_ap, mCont_ap, mSeq_ap, mIf_ap, iSeq_ap, iRan_ap, iZp_ap, mFor_ap, mWhile_ap, mCall_ap, mkD_ap, mLc_ap, fI_ap, fAdd_ap, fSub_ap, fMul_ap, fMod_ap, fDiv_ap, fPow_ap, fLt_ap, fLe_ap, fGt_ap, fGe_ap, fIsN_ap, fNotN_ap, fIsB_ap, fIx_ap, fAddX_ap, fSubX_ap, fMulX_ap, m1_ap, fNeg_ap, mB1_ap, fLen_ap, fAbs_ap, fInt_ap, fMin2_ap, fMax2_ap, fList_ap, fTuple_ap, fStr_ap, mMt_ap, mMtZ_ap, fAppend_ap, fInsert_ap, fPopAt_ap, oNone_ap, oSome_ap, mSl_ap, gIx_ap, mIsi_ap, fEqX_ap, fNeX_ap, fAll_ap, fAny_ap, fSum_ap, fSorted_ap, fBest_ap, fIdx_ap, fRepr_ap, mPermA_ap, fBack_ap, gSplice_ap, mSortSet_ap, fMulY_ap, mTupRan_ap, fIsX_ap, ia_none_int, ia_none_bool, ia_none_list, ia_none_tuple, ia_none_str, ia_none_seq, ia_bool_int, ia_bool_bool, ia_bool_list, ia_bool_tuple, ia_bool_str, ia_bool_seq, ia_int_int, ia_int_bool, ia_int_list, ia_int_tuple, ia_int_str, ia_int_seq, ia_str_int, ia_str_bool, ia_str_list, ia_str_tuple, ia_str_str, ia_str_seq, ia_list_int, ia_list_bool, ia_list_list, ia_list_tuple, ia_list_str, ia_list_seq, ia_tuple_int, ia_tuple_bool, ia_tuple_list, ia_tuple_tuple, ia_tuple_str, ia_tuple_seq, mLst_ap, mTup_ap, mYes_ap, frz, frzAll, peek, res1, resAll, stoAll, argOf, argsOf, bors, wback, outAt, outsFrom, ownsStay, retv, wipeF, unwipe, sto, isNone, tyD, cY, cMul, cMod, cDiv, cPow, Cell.data, b2n, fMulL, b4, ← hT, c1]
  have st3 : mSet 5 (mB1 fTuple (mCons (mSl (mCall (D_shuffled n) (mCons (mVar 0) (mCons (mVar 4) mNil))) oNone (oSome (mVar 3))) mNil)) [some (.own (.lst q3)), some (.dat (.int 5)), some (.dat (.int 7)), some (.dat (.int (1 + r))), some (.dat (.tuple (List.map PyData.int gs))), none, none] = some (.nx, [some (.own (.lst q4)), some (.dat (.int 5)), some (.dat (.int 7)), some (.dat (.int (1 + r))), some (.dat (.tuple (List.map PyData.int gs))), some (.dat (.tuple cs)), none]) := by
    simp [mVar_ap, mLit_ap, m2_ap, mB_ap, mAndT_ap, mOrT_ap, mNotT_ap, mAndV_ap, mOrV_ap, mNotV_ap, mIfE_ap, mNil_ap, mCons_ap, mDisp_ap, gSet_ap, gsNil_ap, gsCons_ap, gTupD_ap, mSet_ap, mAsg_ap, mPar_ap, mExpr_ap, mRet_ap, mRetN_ap, mNext_ap, mBreak_ap, mCont_ap, mSeq_ap, mIf_ap, iSeq_ap, iRan_ap, iZp_ap, mFor_ap, mWhile_ap, mCall_ap, mkD_ap, mLc_ap, fI_ap, fAdd_ap, fSub_ap, fMul_ap, fMod_ap, fDiv_ap, fPow_ap, fLt_ap, fLe_ap, fGt_ap, fGe_ap, fIsN_ap, fNotN_ap, fIsB_ap, fIx_ap, fAddX_ap, fSubX_ap, fMulX_ap, m1_ap, fNeg_ap, mB1_ap, fLen_ap, fAbs_ap, fInt_ap, fMin2_ap, fMax2_ap, fList_ap, fTuple_ap, fStr_ap, mMt_ap, mMtZ_ap, fAppend_ap, fInsert_ap, fPopAt_ap, oNone_ap, oSome_ap, mSl_ap, gIx_ap, mIsi_ap, fEqX_ap, fNeX_ap, fAll_ap, fAny_ap, fSum_ap, fSorted_ap, fBest_ap, fIdx_ap, fRepr_ap, mPermA_ap, fBack_ap, gSplice_ap, mSortSet_ap, fMulY_ap, mTupRan_ap, fIsX_ap, ia_none_int, ia_none_bool, ia_none_list, ia_none_tuple, ia_none_str, ia_none_seq, ia_bool_int, ia_bool_bool, ia_bool_list, ia_bool_tuple, ia_bool_str, ia_bool_seq, ia_int_int, ia_int_bool, ia_int_list, ia_int_tuple, ia_int_str, ia_int_seq, ia_str_int, ia_str_bool, ia_str_list, ia_str_tuple, ia_str_str, ia_str_seq, ia_list_int, ia_list_bool, ia_list_list, ia_list_tuple, ia_list_str, ia_list_seq, ia_tuple_int, ia_tuple_bool, ia_tuple_list, ia_tuple_tuple, ia_tuple_str, ia_tuple_seq, mLst_ap, mTup_ap, mYes_ap, frz, frzAll, peek, res1, resAll, stoAll, argOf, argsOf, bors, wback, outAt, outsFrom, ownsStay, retv, wipeF, unwipe, sto, isNone, tyD, cY, cMul, cMod, cDiv, cPow, Cell.data, b2n, fMulL, d1, ← hcs]
  have whole : b_plant n [some (.own (.lst q)), some (.dat (.int 5)), some (.dat (.int 7)), none, none, none, none] = some (.rt (.dat (.tuple [.tuple [.tuple (List.map PyData.int gs), .tuple out], .tuple cs])), [some s5, some (.dat (.int 5)), some (.dat (.int 7)), some (.dat (.int (1 + r))), some (.dat (.tuple (List.map PyData.int gs))), some (.dat (.tuple cs)), none]) := by
    unfold b_plant
    rw [mSeq_nx st1, mSeq_nx st2, mSeq_nx st3]
    simp [mVar_ap, mLit_ap, m2_ap, mB_ap, mAndT_ap, mOrT_ap, mNotT_ap, mAndV_ap, mOrV_ap, mNotV_ap, mIfE_ap, mNil_ap, mCons_ap, mDisp_ap, gSet_ap, gsNil_ap, gsCons_ap, gTupD_ap, mSet_ap, mAsg_ap, mPar_ap, mExpr_ap, mRet_ap, mRetN_ap, mNext_ap, mBreak_ap, mCont_ap, mSeq_ap, mIf_ap, iSeq_ap, iRan_ap, iZp_ap, mFor_ap, mWhile_ap, mCall_ap, mkD_ap, mLc_ap, fI_ap, fAdd_ap, fSub_ap, fMul_ap, fMod_ap, fDiv_ap, fPow_ap, fLt_ap, fLe_ap, fGt_ap, fGe_ap, fIsN_ap, fNotN_ap, fIsB_ap, fIx_ap, fAddX_ap, fSubX_ap, fMulX_ap, m1_ap, fNeg_ap, mB1_ap, fLen_ap, fAbs_ap, fInt_ap, fMin2_ap, fMax2_ap, fList_ap, fTuple_ap, fStr_ap, mMt_ap, mMtZ_ap, fAppend_ap, fInsert_ap, fPopAt_ap, oNone_ap, oSome_ap, mSl_ap, gIx_ap, mIsi_ap, fEqX_ap, fNeX_ap, fAll_ap, fAny_ap, fSum_ap, fSorted_ap, fBest_ap, fIdx_ap, fRepr_ap, mPermA_ap, fBack_ap, gSplice_ap, mSortSet_ap, fMulY_ap, mTupRan_ap, fIsX_ap, ia_none_int, ia_none_bool, ia_none_list, ia_none_tuple, ia_none_str, ia_none_seq, ia_bool_int, ia_bool_bool, ia_bool_list, ia_bool_tuple, ia_bool_str, ia_bool_seq, ia_int_int, ia_int_bool, ia_int_list, ia_int_tuple, ia_int_str, ia_int_seq, ia_str_int, ia_str_bool, ia_str_list, ia_str_tuple, ia_str_str, ia_str_seq, ia_list_int, ia_list_bool, ia_list_list, ia_list_tuple, ia_list_str, ia_list_seq, ia_tuple_int, ia_tuple_bool, ia_tuple_list, ia_tuple_tuple, ia_tuple_str, ia_tuple_seq, mLst_ap, mTup_ap, mYes_ap, frz, frzAll, peek, res1, resAll, stoAll, argOf, argsOf, bors, wback, outAt, outsFrom, ownsStay, retv, wipeF, unwipe, sto, isNone, tyD, cY, cMul, cMod, cDiv, cPow, Cell.data, b2n, fMulL, e1, sizeLine_v]
  rw [mkD_ap]
  simp only [List.length_cons, List.length_nil, List.map_cons, List.map_nil, List.replicate, List.cons_append, List.nil_append, ↓reduceIte, Nat.reduceAdd, Nat.reduceSub, whole]
  simp [retv, outsFrom, outAt]
end Lk01

namespace Lk01
open PySem PySem.Spec PyProof.Rows L2 Rf
/-- small enough for all tests -/
def Sm (d : PyData) : Prop := Ok 63 (10 ^ 45) 20 d ∧ sz d ≤ 100000
theorem Ok.pl {l b : Nat} (hl : l ≤ 63) : ∀ (n : Nat) {h : Nat} {d : PyData}, h ≤ 60 → Ok l b h d → Pl n d
  | 0, h, d, hh, o => ⟨o.plain, o.shaped hh⟩
  | n + 1, h, d, hh, o => by
    refine ⟨⟨o.plain, o.shaped hh⟩, fun ds e => ?_⟩
    subst e
    cases h with
    | zero => simp [Ok] at o
    | succ h =>
      simp only [Ok] at o
      exact ⟨by omega, fun x m => Ok.pl hl n (by omega) (o.2 x m)⟩
theorem Sm.pl {d : PyData} (h : Sm d) : Pl 3 d := Ok.pl (by omega) 3 (by omega) h.1
theorem Sm.rep {d : PyData} (h : Sm d) : okRepr d = true := h.1.repr (by decide) (by omega) (by have := h.2; omega)
theorem Rg.ok {x : PyData} (h : Rg x) : Ok 7 1000000000 1 x ∧ sz x = 134 := by
  obtain ⟨a, b, rfl, h1, h2, h3⟩ := h
  refine ⟨⟨by simp, fun y m => ?_⟩, by simp [sz, szA]⟩
  simp only [List.mem_cons, List.not_mem_nil, or_false] at m
  rcases m with rfl | rfl
  · simp only [Ok]; omega
  · simp only [Ok]; omega
theorem szA_le {k : Nat} : ∀ {ds : List PyData}, (∀ x ∈ ds, sz x ≤ k) → szA ds ≤ (k + 2) * ds.length
  | [], _ => by simp [szA_nil]
  | d :: ds, h => by
    rw [szA_cons]
    have h1 := h d (by simp)
    have h2 := szA_le (k := k) (ds := ds) fun x m => h x (by simp [m])
    rw [List.length_cons, Nat.mul_add]; omega
theorem Plt.ok {p : PyData} (h : Plt p) : Ok 7 1000000000 3 p ∧ sz p ≤ 2000 ∧ shopB p = true ∧ ∃ g r, p = .tuple [g, r] ∧ Sm g ∧ Sm r := by
  obtain ⟨gs, rs, rfl, g1, g2, g3, g4, r1, r2, r3⟩ := h
  have og : Ok 7 1000000000 2 (.tuple (List.map PyData.int gs)) := by
    refine ⟨by simpa using g2, fun x m => ?_⟩
    obtain ⟨i, hi, rfl⟩ := List.mem_map.1 m
    have := g4 i hi
    simp only [Ok]; omega
  have or_ : Ok 7 1000000000 2 (.tuple rs) := ⟨r2, fun x m => (r3 x m).ok.1⟩
  have sg : sz (.tuple (List.map PyData.int gs)) ≤ 500 := by
    have := szA_le (k := 60) (ds := List.map PyData.int gs) (fun x m => by obtain ⟨i, hi, rfl⟩ := List.mem_map.1 m; simp [sz])
    simp only [sz]; simp at this; omega
  have sr : sz (.tuple rs) ≤ 1000 := by
    have := szA_le (k := 134) (ds := rs) (fun x m => by rw [(r3 x m).ok.2]; omega)
    simp only [sz]; omega
  refine ⟨⟨by simp, fun x m => ?_⟩, ?_, ?_, _, _, rfl, ⟨og.mono (by omega) (by decide) (by omega), by omega⟩, ⟨or_.mono (by omega) (by decide) (by omega), by omega⟩⟩
  · simp only [List.mem_cons, List.not_mem_nil, or_false] at m
    rcases m with rfl | rfl
    · exact og
    · exact or_
  · have e : sz (.tuple [.tuple (List.map PyData.int gs), .tuple rs]) = sz (.tuple (List.map PyData.int gs)) + 2 + (sz (.tuple rs) + 2 + 0) + 10 := by
      rw [sz, szA_cons, szA_cons, szA_nil]
    rw [e]; omega
  · have h1 : sizesB (.tuple (List.map PyData.int gs)) = true := by
      have hne : (List.map PyData.int gs).isEmpty = false := by cases gs with | nil => simp at g1 | cons _ _ => rfl
      have hall : (List.map PyData.int gs).all sizeB = true := by
        rw [List.all_eq_true]
        intro x m
        obtain ⟨i, hi, rfl⟩ := List.mem_map.1 m
        have := g4 i hi
        simp only [sizeB, decide_eq_true_eq]; omega
      simp only [sizesB, hne, hall, ascB, intsD_map, g3]; rfl
    have h2 : rangesB (.tuple rs) = true := by
      have hne : rs.isEmpty = false := by cases rs with | nil => simp at r1 | cons _ _ => rfl
      have hall : rs.all rangeB = true := by
        rw [List.all_eq_true]
        intro x m
        obtain ⟨a, b, rfl, h1, h2, h3⟩ := r3 x m
        simp only [rangeB, Bool.and_eq_true, decide_eq_true_eq]; omega
      simp only [rangesB, hne, hall]; rfl
    simp only [shopB, h1, h2]; rfl
def A1 (p g r ls : PyData) : List PyData := [p, .list [g, r], ls, .tuple [], .list [], .none, .int 0, .str "shop", g, r, .tuple [.tuple [], .tuple [.tuple [.int 1, .int 1]]]]
def A2 : List PyData := [.tuple [.tuple [.int 1], .tuple []], .tuple [.tuple [.int 1], .tuple [.tuple [.int 1, .int 1]]], .tuple [.tuple [.int 1], .tuple [.tuple [.int 2, .int 1]]], .tuple [.tuple [.int 2, .int 1], .tuple [.tuple [.int 1, .int 1]]], .tuple [.tuple [.int 1, .int 1], .tuple [.tuple [.int 1, .int 1]]]]
def A3 : List PyData := [.tuple [.tuple [.int 0], .tuple [.tuple [.int 1, .int 1]]], .tuple [.tuple [.int 1], .tuple [.tuple [.int 0, .int 1]]], .tuple [.tuple [.bool true], .tuple [.tuple [.int 1, .int 1]]], .tuple [.tuple [.int 1], .tuple [.tuple [.int 1, .bool true]]]]
def A4 : List PyData := [.tuple [.tuple [.int 1], .tuple [.int 1, .int 1]]]
def A5 (g r : PyData) : List PyData := [.tuple [.tuple [.int 1], .tuple [.tuple [.int 1, .int 1, .int 1]]], .tuple [g, r, .tuple []], .tuple [.tuple [.int (10 ^ 30)], .tuple [.tuple [.int 1, .int (10 ^ 40)]]], .tuple [.tuple [.int 1], .tuple [.list [.int 1, .int 1]]]]
def A6 : List PyData := [.tuple [.list [.int 1], .tuple [.tuple [.int 1, .int 1]]], .tuple [.tuple (Rf.intsFrom 1 39), .tuple (repD 30 [.tuple [.int 1, .int 9]])], .tuple [.tuple [.str "1"], .tuple [.tuple [.int 1, .int 1]]]]
def A7 : List PyData := [.tuple [.tuple [.int 1], .tuple [.none]]]
def AA (p g r ls : PyData) : List PyData := A1 p g r ls ++ A2 ++ A3 ++ A4 ++ A5 g r ++ A6 ++ A7
def okB (l b : Nat) : Nat → PyData → Bool
  | _, .none => true
  | _, .bool _ => true
  | _, .int i => decide (i.natAbs < b)
  | _, .str s => PyData.strOk s && decide (s.length ≤ 100)
  | h + 1, .list ds => decide (ds.length ≤ l) && ds.all (okB l b h)
  | h + 1, .tuple ds => decide (ds.length ≤ l) && ds.all (okB l b h)
  | _, _ => false
theorem okB_ok {l b : Nat} : ∀ {h : Nat} {d : PyData}, okB l b h d = true → Ok l b h d
  | _, .none, _ => by simp [Ok]
  | _, .bool _, _ => by simp [Ok]
  | _, .int i, o => by simpa [okB, Ok] using o
  | _, .str s, o => by simpa [okB, Ok] using o
  | 0, .list ds, o => by simp [okB] at o
  | 0, .tuple ds, o => by simp [okB] at o
  | 0, .dict _, o => by simp [okB] at o
  | _ + 1, .dict _, o => by simp [okB] at o
  | h + 1, .list ds, o => by
    simp only [okB, Bool.and_eq_true, decide_eq_true_eq, List.all_eq_true] at o
    exact ⟨o.1, fun x m => okB_ok (o.2 x m)⟩
  | h + 1, .tuple ds, o => by
    simp only [okB, Bool.and_eq_true, decide_eq_true_eq, List.all_eq_true] at o
    exact ⟨o.1, fun x m => okB_ok (o.2 x m)⟩
def smB (d : PyData) : Bool := okB 63 (10 ^ 45) 20 d && decide (sz d ≤ 100000)
theorem smB_ok {d : PyData} (h : smB d = true) : Sm d := by
  simp only [smB, Bool.and_eq_true, decide_eq_true_eq] at h
  exact ⟨okB_ok h.1, h.2⟩
theorem A2_ok : A2.all smB = true := by decide +kernel
theorem A3_ok : A3.all smB = true := by decide +kernel
theorem A4_ok : A4.all smB = true := by decide +kernel
theorem A6_ok : A6.all smB = true := by decide +kernel
theorem A7_ok : A7.all smB = true := by decide +kernel
theorem Ac_ok : ([.tuple [], .list [], .none, .int 0, .str "shop", .tuple [.tuple [], .tuple [.tuple [.int 1, .int 1]]], .tuple [.tuple [.int 1], .tuple [.tuple [.int 1, .int 1, .int 1]]], .tuple [.tuple [.int (10 ^ 30)], .tuple [.tuple [.int 1, .int (10 ^ 40)]]], .tuple [.tuple [.int 1], .tuple [.list [.int 1, .int 1]]]] : List PyData).all smB = true := by decide +kernel
theorem AA_ok {p g r ls : PyData} (hp : Plt p) (e : p = .tuple [g, r]) (hg : Sm g) (hr : Sm r) (hl : Sm ls) : ∀ x ∈ AA p g r ls, Sm x := by
  have op := hp.ok
  have sp : Sm p := ⟨op.1.mono (by omega) (by decide) (by omega), by omega⟩
  have hgr : sz g + sz r ≤ 2000 := by
    have := op.2.1
    rw [e, sz, szA_cons, szA_cons, szA_nil] at this
    omega
  have og : Ok 7 1000000000 2 g ∧ Ok 7 1000000000 2 r := by
    have := op.1
    rw [e] at this
    simp only [Ok] at this
    exact ⟨this.2 g (by simp), this.2 r (by simp)⟩
  have sl : Sm (.list [g, r]) := by
    refine ⟨⟨by simp, fun x m => ?_⟩, ?_⟩
    · simp only [List.mem_cons, List.not_mem_nil, or_false] at m
      rcases m with rfl | rfl
      · exact og.1.mono (by decide) (by decide) (by decide)
      · exact og.2.mono (by decide) (by decide) (by decide)
    · rw [sz, szA_cons, szA_cons, szA_nil]; omega
  have s3 : Sm (.tuple [g, r, .tuple []]) := by
    refine ⟨⟨by simp, fun x m => ?_⟩, ?_⟩
    · simp only [List.mem_cons, List.not_mem_nil, or_false] at m
      rcases m with rfl | rfl | rfl
      · exact og.1.mono (by decide) (by decide) (by decide)
      · exact og.2.mono (by decide) (by decide) (by decide)
      · exact ⟨by simp, by simp⟩
    · have : sz (.tuple []) = 10 := by simp [sz, szA]
      rw [sz, szA_cons, szA_cons, szA_cons, szA_nil, this]; omega
  have ac := List.all_eq_true.1 Ac_ok
  intro x m
  simp only [AA, List.mem_append] at m
  rcases m with (((((m | m) | m) | m) | m) | m) | m
  · simp only [A1, List.mem_cons, List.not_mem_nil, or_false] at m
    rcases m with rfl | rfl | rfl | rfl | rfl | rfl | rfl | rfl | rfl | rfl | rfl
    · exact sp
    · exact sl
    · exact hl
    · exact smB_ok (ac _ (by simp))
    · exact smB_ok (ac _ (by simp))
    · exact smB_ok (ac _ (by simp))
    · exact smB_ok (ac _ (by simp))
    · exact smB_ok (ac _ (by simp))
    · exact hg
    · exact hr
    · exact smB_ok (ac _ (by simp))
  · exact smB_ok (List.all_eq_true.1 A2_ok x m)
  · exact smB_ok (List.all_eq_true.1 A3_ok x m)
  · exact smB_ok (List.all_eq_true.1 A4_ok x m)
  · simp only [A5, List.mem_cons, List.not_mem_nil, or_false] at m
    rcases m with rfl | rfl | rfl | rfl
    · exact smB_ok (ac _ (by simp))
    · exact s3
    · exact smB_ok (ac _ (by simp))
    · exact smB_ok (ac _ (by simp))
  · exact smB_ok (List.all_eq_true.1 A6_ok x m)
  · exact smB_ok (List.all_eq_true.1 A7_ok x m)
end Lk01

namespace Lk01
open PySem PySem.Spec PyProof.Rows L2 Rf
theorem st2_ok (n : Nat) (p g r : PyData) (s : S0) (xs : List PyData) (hl : xs.length ≤ 100) : (mSet 2 (m2 fAddX (mVar 2) (mLst (mCons (mTup (mCons (mTup (mCons (mLit (.int 1)) mNil)) (mCons (mTup mNil) mNil))) (mCons (mTup (mCons (mTup (mCons (mLit (.int 1)) mNil)) (mCons (mTup (mCons (mTup (mCons (mLit (.int 1)) (mCons (mLit (.int 1)) mNil))) mNil)) mNil))) (mCons (mTup (mCons (mTup (mCons (mLit (.int 1)) mNil)) (mCons (mTup (mCons (mTup (mCons (mLit (.int 2)) (mCons (mLit (.int 1)) mNil))) mNil)) mNil))) (mCons (mTup (mCons (mTup (mCons (mLit (.int 2)) (mCons (mLit (.int 1)) mNil))) (mCons (mTup (mCons (mTup (mCons (mLit (.int 1)) (mCons (mLit (.int 1)) mNil))) mNil)) mNil))) (mCons (mTup (mCons (mTup (mCons (mLit (.int 1)) (mCons (mLit (.int 1)) mNil))) (mCons (mTup (mCons (mTup (mCons (mLit (.int 1)) (mCons (mLit (.int 1)) mNil))) mNil)) mNil))) mNil)))))))) [some s, some (.dat p), some (.own (.lst xs)), none, none, none, none, none] = some (.nx, [some s, some (.dat p), some (.own (.lst (xs ++ A2))), none, none, none, none, none]) := by
  have h1 : xs.length ≤ 16777216 - 6 := by omega
  have h2 : xs.length < 16777216 := by omega
  have h3 : xs.length + 1 ≤ 16777216 := by omega
  have h4 : xs.length + 2 ≤ 16777216 := by omega
  have h5 : xs.length + 3 ≤ 16777216 := by omega
  have h6 : xs.length + 4 ≤ 16777216 := by omega
  have h7 : xs.length + 5 ≤ 16777216 := by omega
  skip
  simp [mVar_ap, mLit_ap, m2_ap, mB_ap, mAndT_ap, mOrT_ap, mNotT_ap, mAndV_ap, mOrV_ap, mNotV_ap, mIfE_ap, mNil_ap, mCons_ap, mDisp_ap, gSet_ap, gsNil_ap, gsCons_ap, gTupD_ap, mSet_ap, mAsg_ap, mPar_ap, mExpr_ap, mRet_ap, mRetN_ap, mNext_ap, mBreak_ap, mCont_ap, mSeq_ap, mIf_ap, iSeq_ap, iRan_ap, iZp_ap, mFor_ap, mWhile_ap, mCall_ap, mkD_ap, mLc_ap, fI_ap, fAdd_ap, fSub_ap, fMul_ap, fMod_ap, fDiv_ap, fPow_ap, fLt_ap, fLe_ap, fGt_ap, fGe_ap, fIsN_ap, fNotN_ap, fIsB_ap, fIx_ap, fAddX_ap, fSubX_ap, fMulX_ap, m1_ap, fNeg_ap, mB1_ap, fLen_ap, fAbs_ap, fInt_ap, fMin2_ap, fMax2_ap, fList_ap, fTuple_ap, fStr_ap, mMt_ap, mMtZ_ap, fAppend_ap, fInsert_ap, fPopAt_ap, oNone_ap, oSome_ap, mSl_ap, gIx_ap, mIsi_ap, fEqX_ap, fNeX_ap, fAll_ap, fAny_ap, fSum_ap, fSorted_ap, fBest_ap, fIdx_ap, fRepr_ap, mPermA_ap, fBack_ap, gSplice_ap, mSortSet_ap, fMulY_ap, mTupRan_ap, fIsX_ap, ia_none_int, ia_none_bool, ia_none_list, ia_none_tuple, ia_none_str, ia_none_seq, ia_bool_int, ia_bool_bool, ia_bool_list, ia_bool_tuple, ia_bool_str, ia_bool_seq, ia_int_int, ia_int_bool, ia_int_list, ia_int_tuple, ia_int_str, ia_int_seq, ia_str_int, ia_str_bool, ia_str_list, ia_str_tuple, ia_str_str, ia_str_seq, ia_list_int, ia_list_bool, ia_list_list, ia_list_tuple, ia_list_str, ia_list_seq, ia_tuple_int, ia_tuple_bool, ia_tuple_list, ia_tuple_tuple, ia_tuple_str, ia_tuple_seq, mLst_ap, mTup_ap, mYes_ap, frz, frzAll, peek, res1, resAll, stoAll, argOf, argsOf, bors, wback, outAt, outsFrom, ownsStay, retv, wipeF, unwipe, sto, isNone, tyD, cY, cMul, cMod, cDiv, cPow, Cell.data, b2n, atI, ixN, fMulL, sizeLine_v, h2, h3, h4, h5, h6, h7, A2]
theorem st3_ok (n : Nat) (p g r : PyData) (s : S0) (xs : List PyData) (hl : xs.length ≤ 100) : (mSet 2 (m2 fAddX (mVar 2) (mLst (mCons (mTup (mCons (mTup (mCons (mLit (.int 0)) mNil)) (mCons (mTup (mCons (mTup (mCons (mLit (.int 1)) (mCons (mLit (.int 1)) mNil))) mNil)) mNil))) (mCons (mTup (mCons (mTup (mCons (mLit (.int 1)) mNil)) (mCons (mTup (mCons (mTup (mCons (mLit (.int 0)) (mCons (mLit (.int 1)) mNil))) mNil)) mNil))) (mCons (mTup (mCons (mTup (mCons (mLit (.bool true)) mNil)) (mCons (mTup (mCons (mTup (mCons (mLit (.int 1)) (mCons (mLit (.int 1)) mNil))) mNil)) mNil))) (mCons (mTup (mCons (mTup (mCons (mLit (.int 1)) mNil)) (mCons (mTup (mCons (mTup (mCons (mLit (.int 1)) (mCons (mLit (.bool true)) mNil))) mNil)) mNil))) mNil))))))) [some s, some (.dat p), some (.own (.lst xs)), none, none, none, none, none] = some (.nx, [some s, some (.dat p), some (.own (.lst (xs ++ A3))), none, none, none, none, none]) := by
  have h1 : xs.length ≤ 16777216 - 6 := by omega
  have h2 : xs.length < 16777216 := by omega
  have h3 : xs.length + 1 ≤ 16777216 := by omega
  have h4 : xs.length + 2 ≤ 16777216 := by omega
  have h5 : xs.length + 3 ≤ 16777216 := by omega
  have h6 : xs.length + 4 ≤ 16777216 := by omega
  have h7 : xs.length + 5 ≤ 16777216 := by omega
  skip
  simp [mVar_ap, mLit_ap, m2_ap, mB_ap, mAndT_ap, mOrT_ap, mNotT_ap, mAndV_ap, mOrV_ap, mNotV_ap, mIfE_ap, mNil_ap, mCons_ap, mDisp_ap, gSet_ap, gsNil_ap, gsCons_ap, gTupD_ap, mSet_ap, mAsg_ap, mPar_ap, mExpr_ap, mRet_ap, mRetN_ap, mNext_ap, mBreak_ap, mCont_ap, mSeq_ap, mIf_ap, iSeq_ap, iRan_ap, iZp_ap, mFor_ap, mWhile_ap, mCall_ap, mkD_ap, mLc_ap, fI_ap, fAdd_ap, fSub_ap, fMul_ap, fMod_ap, fDiv_ap, fPow_ap, fLt_ap, fLe_ap, fGt_ap, fGe_ap, fIsN_ap, fNotN_ap, fIsB_ap, fIx_ap, fAddX_ap, fSubX_ap, fMulX_ap, m1_ap, fNeg_ap, mB1_ap, fLen_ap, fAbs_ap, fInt_ap, fMin2_ap, fMax2_ap, fList_ap, fTuple_ap, fStr_ap, mMt_ap, mMtZ_ap, fAppend_ap, fInsert_ap, fPopAt_ap, oNone_ap, oSome_ap, mSl_ap, gIx_ap, mIsi_ap, fEqX_ap, fNeX_ap, fAll_ap, fAny_ap, fSum_ap, fSorted_ap, fBest_ap, fIdx_ap, fRepr_ap, mPermA_ap, fBack_ap, gSplice_ap, mSortSet_ap, fMulY_ap, mTupRan_ap, fIsX_ap, ia_none_int, ia_none_bool, ia_none_list, ia_none_tuple, ia_none_str, ia_none_seq, ia_bool_int, ia_bool_bool, ia_bool_list, ia_bool_tuple, ia_bool_str, ia_bool_seq, ia_int_int, ia_int_bool, ia_int_list, ia_int_tuple, ia_int_str, ia_int_seq, ia_str_int, ia_str_bool, ia_str_list, ia_str_tuple, ia_str_str, ia_str_seq, ia_list_int, ia_list_bool, ia_list_list, ia_list_tuple, ia_list_str, ia_list_seq, ia_tuple_int, ia_tuple_bool, ia_tuple_list, ia_tuple_tuple, ia_tuple_str, ia_tuple_seq, mLst_ap, mTup_ap, mYes_ap, frz, frzAll, peek, res1, resAll, stoAll, argOf, argsOf, bors, wback, outAt, outsFrom, ownsStay, retv, wipeF, unwipe, sto, isNone, tyD, cY, cMul, cMod, cDiv, cPow, Cell.data, b2n, atI, ixN, fMulL, sizeLine_v, h2, h3, h4, h5, h6, h7, A3]
theorem st4_ok (n : Nat) (p g r : PyData) (s : S0) (xs : List PyData) (hl : xs.length ≤ 100) : (mExpr (mMtZ "list" fAppend (mVar 2) (mCons (mTup (mCons (mTup (mCons (mLit (.int 1)) mNil)) (mCons (mTup (mCons (mLit (.int 1)) (mCons (mLit (.int 1)) mNil))) mNil))) mNil))) [some s, some (.dat p), some (.own (.lst xs)), none, none, none, none, none] = some (.nx, [some s, some (.dat p), some (.own (.lst (xs ++ A4))), none, none, none, none, none]) := by
  have h1 : xs.length ≤ 16777216 - 6 := by omega
  have h2 : xs.length < 16777216 := by omega
  have h3 : xs.length + 1 ≤ 16777216 := by omega
  have h4 : xs.length + 2 ≤ 16777216 := by omega
  have h5 : xs.length + 3 ≤ 16777216 := by omega
  have h6 : xs.length + 4 ≤ 16777216 := by omega
  have h7 : xs.length + 5 ≤ 16777216 := by omega
  skip
  simp [mVar_ap, mLit_ap, m2_ap, mB_ap, mAndT_ap, mOrT_ap, mNotT_ap, mAndV_ap, mOrV_ap, mNotV_ap, mIfE_ap, mNil_ap, mCons_ap, mDisp_ap, gSet_ap, gsNil_ap, gsCons_ap, gTupD_ap, mSet_ap, mAsg_ap, mPar_ap, mExpr_ap, mRet_ap, mRetN_ap, mNext_ap, mBreak_ap, mCont_ap, mSeq_ap, mIf_ap, iSeq_ap, iRan_ap, iZp_ap, mFor_ap, mWhile_ap, mCall_ap, mkD_ap, mLc_ap, fI_ap, fAdd_ap, fSub_ap, fMul_ap, fMod_ap, fDiv_ap, fPow_ap, fLt_ap, fLe_ap, fGt_ap, fGe_ap, fIsN_ap, fNotN_ap, fIsB_ap, fIx_ap, fAddX_ap, fSubX_ap, fMulX_ap, m1_ap, fNeg_ap, mB1_ap, fLen_ap, fAbs_ap, fInt_ap, fMin2_ap, fMax2_ap, fList_ap, fTuple_ap, fStr_ap, mMt_ap, mMtZ_ap, fAppend_ap, fInsert_ap, fPopAt_ap, oNone_ap, oSome_ap, mSl_ap, gIx_ap, mIsi_ap, fEqX_ap, fNeX_ap, fAll_ap, fAny_ap, fSum_ap, fSorted_ap, fBest_ap, fIdx_ap, fRepr_ap, mPermA_ap, fBack_ap, gSplice_ap, mSortSet_ap, fMulY_ap, mTupRan_ap, fIsX_ap, ia_none_int, ia_none_bool, ia_none_list, ia_none_tuple, ia_none_str, ia_none_seq, ia_bool_int, ia_bool_bool, ia_bool_list, ia_bool_tuple, ia_bool_str, ia_bool_seq, ia_int_int, ia_int_bool, ia_int_list, ia_int_tuple, ia_int_str, ia_int_seq, ia_str_int, ia_str_bool, ia_str_list, ia_str_tuple, ia_str_str, ia_str_seq, ia_list_int, ia_list_bool, ia_list_list, ia_list_tuple, ia_list_str, ia_list_seq, ia_tuple_int, ia_tuple_bool, ia_tuple_list, ia_tuple_tuple, ia_tuple_str, ia_tuple_seq, mLst_ap, mTup_ap, mYes_ap, frz, frzAll, peek, res1, resAll, stoAll, argOf, argsOf, bors, wback, outAt, outsFrom, ownsStay, retv, wipeF, unwipe, sto, isNone, tyD, cY, cMul, cMod, cDiv, cPow, Cell.data, b2n, atI, ixN, fMulL, sizeLine_v, h2, h3, h4, h5, h6, h7, A4]
theorem st5_ok (n : Nat) (p g r : PyData) (s : S0) (xs : List PyData) (hl : xs.length ≤ 100) (hp : p = .tuple [g, r]) : (mSet 2 (m2 fAddX (mVar 2) (mLst (mCons (mTup (mCons (mTup (mCons (mLit (.int 1)) mNil)) (mCons (mTup (mCons (mTup (mCons (mLit (.int 1)) (mCons (mLit (.int 1)) (mCons (mLit (.int 1)) mNil)))) mNil)) mNil))) (mCons (m2 fAddX (mVar 1) (mTup (mCons (mTup mNil) mNil))) (mCons (mTup (mCons (mTup (mCons (m2 fPow (mLit (.int 10)) (mLit (.int 30))) mNil)) (mCons (mTup (mCons (mTup (mCons (mLit (.int 1)) (mCons (m2 fPow (mLit (.int 10)) (mLit (.int 40))) mNil))) mNil)) mNil))) (mCons (mTup (mCons (mTup (mCons (mLit (.int 1)) mNil)) (mCons (mTup (mCons (mLst (mCons (mLit (.int 1)) (mCons (mLit (.int 1)) mNil))) mNil)) mNil))) mNil))))))) [some s, some (.dat p), some (.own (.lst xs)), none, none, none, none, none] = some (.nx, [some s, some (.dat p), some (.own (.lst (xs ++ A5 g r))), none, none, none, none, none]) := by
  have h1 : xs.length ≤ 16777216 - 6 := by omega
  have h2 : xs.length < 16777216 := by omega
  have h3 : xs.length + 1 ≤ 16777216 := by omega
  have h4 : xs.length + 2 ≤ 16777216 := by omega
  have h5 : xs.length + 3 ≤ 16777216 := by omega
  have h6 : xs.length + 4 ≤ 16777216 := by omega
  have h7 : xs.length + 5 ≤ 16777216 := by omega
  subst hp
  simp [mVar_ap, mLit_ap, m2_ap, mB_ap, mAndT_ap, mOrT_ap, mNotT_ap, mAndV_ap, mOrV_ap, mNotV_ap, mIfE_ap, mNil_ap, mCons_ap, mDisp_ap, gSet_ap, gsNil_ap, gsCons_ap, gTupD_ap, mSet_ap, mAsg_ap, mPar_ap, mExpr_ap, mRet_ap, mRetN_ap, mNext_ap, mBreak_ap, mCont_ap, mSeq_ap, mIf_ap, iSeq_ap, iRan_ap, iZp_ap, mFor_ap, mWhile_ap, mCall_ap, mkD_ap, mLc_ap, fI_ap, fAdd_ap, fSub_ap, fMul_ap, fMod_ap, fDiv_ap, fPow_ap, fLt_ap, fLe_ap, fGt_ap, fGe_ap, fIsN_ap, fNotN_ap, fIsB_ap, fIx_ap, fAddX_ap, fSubX_ap, fMulX_ap, m1_ap, fNeg_ap, mB1_ap, fLen_ap, fAbs_ap, fInt_ap, fMin2_ap, fMax2_ap, fList_ap, fTuple_ap, fStr_ap, mMt_ap, mMtZ_ap, fAppend_ap, fInsert_ap, fPopAt_ap, oNone_ap, oSome_ap, mSl_ap, gIx_ap, mIsi_ap, fEqX_ap, fNeX_ap, fAll_ap, fAny_ap, fSum_ap, fSorted_ap, fBest_ap, fIdx_ap, fRepr_ap, mPermA_ap, fBack_ap, gSplice_ap, mSortSet_ap, fMulY_ap, mTupRan_ap, fIsX_ap, ia_none_int, ia_none_bool, ia_none_list, ia_none_tuple, ia_none_str, ia_none_seq, ia_bool_int, ia_bool_bool, ia_bool_list, ia_bool_tuple, ia_bool_str, ia_bool_seq, ia_int_int, ia_int_bool, ia_int_list, ia_int_tuple, ia_int_str, ia_int_seq, ia_str_int, ia_str_bool, ia_str_list, ia_str_tuple, ia_str_str, ia_str_seq, ia_list_int, ia_list_bool, ia_list_list, ia_list_tuple, ia_list_str, ia_list_seq, ia_tuple_int, ia_tuple_bool, ia_tuple_list, ia_tuple_tuple, ia_tuple_str, ia_tuple_seq, mLst_ap, mTup_ap, mYes_ap, frz, frzAll, peek, res1, resAll, stoAll, argOf, argsOf, bors, wback, outAt, outsFrom, ownsStay, retv, wipeF, unwipe, sto, isNone, tyD, cY, cMul, cMod, cDiv, cPow, Cell.data, b2n, atI, ixN, fMulL, sizeLine_v, h2, h3, h4, h5, h6, h7, A5]
theorem st6_ok (n : Nat) (p g r : PyData) (s : S0) (xs : List PyData) (hl : xs.length ≤ 100) : (mSet 2 (m2 fAddX (mVar 2) (mLst (mCons (mTup (mCons (mLst (mCons (mLit (.int 1)) mNil)) (mCons (mTup (mCons (mTup (mCons (mLit (.int 1)) (mCons (mLit (.int 1)) mNil))) mNil)) mNil))) (mCons (mTup (mCons (mTupRan (mCons (mLit (.int 1)) (mCons (mLit (.int 40)) mNil))) (mCons (m2 fMulY (mTup (mCons (mTup (mCons (mLit (.int 1)) (mCons (mLit (.int 9)) mNil))) mNil)) (mLit (.int 30))) mNil))) (mCons (mTup (mCons (mTup (mCons (mLit (.str "1")) mNil)) (mCons (mTup (mCons (mTup (mCons (mLit (.int 1)) (mCons (mLit (.int 1)) mNil))) mNil)) mNil))) mNil)))))) [some s, some (.dat p), some (.own (.lst xs)), none, none, none, none, none] = some (.nx, [some s, some (.dat p), some (.own (.lst (xs ++ A6))), none, none, none, none, none]) := by
  have h1 : xs.length ≤ 16777216 - 6 := by omega
  have h2 : xs.length < 16777216 := by omega
  have h3 : xs.length + 1 ≤ 16777216 := by omega
  have h4 : xs.length + 2 ≤ 16777216 := by omega
  have h5 : xs.length + 3 ≤ 16777216 := by omega
  have h6 : xs.length + 4 ≤ 16777216 := by omega
  have h7 : xs.length + 5 ≤ 16777216 := by omega
  skip
  simp [mVar_ap, mLit_ap, m2_ap, mB_ap, mAndT_ap, mOrT_ap, mNotT_ap, mAndV_ap, mOrV_ap, mNotV_ap, mIfE_ap, mNil_ap, mCons_ap, mDisp_ap, gSet_ap, gsNil_ap, gsCons_ap, gTupD_ap, mSet_ap, mAsg_ap, mPar_ap, mExpr_ap, mRet_ap, mRetN_ap, mNext_ap, mBreak_ap, mCont_ap, mSeq_ap, mIf_ap, iSeq_ap, iRan_ap, iZp_ap, mFor_ap, mWhile_ap, mCall_ap, mkD_ap, mLc_ap, fI_ap, fAdd_ap, fSub_ap, fMul_ap, fMod_ap, fDiv_ap, fPow_ap, fLt_ap, fLe_ap, fGt_ap, fGe_ap, fIsN_ap, fNotN_ap, fIsB_ap, fIx_ap, fAddX_ap, fSubX_ap, fMulX_ap, m1_ap, fNeg_ap, mB1_ap, fLen_ap, fAbs_ap, fInt_ap, fMin2_ap, fMax2_ap, fList_ap, fTuple_ap, fStr_ap, mMt_ap, mMtZ_ap, fAppend_ap, fInsert_ap, fPopAt_ap, oNone_ap, oSome_ap, mSl_ap, gIx_ap, mIsi_ap, fEqX_ap, fNeX_ap, fAll_ap, fAny_ap, fSum_ap, fSorted_ap, fBest_ap, fIdx_ap, fRepr_ap, mPermA_ap, fBack_ap, gSplice_ap, mSortSet_ap, fMulY_ap, mTupRan_ap, fIsX_ap, ia_none_int, ia_none_bool, ia_none_list, ia_none_tuple, ia_none_str, ia_none_seq, ia_bool_int, ia_bool_bool, ia_bool_list, ia_bool_tuple, ia_bool_str, ia_bool_seq, ia_int_int, ia_int_bool, ia_int_list, ia_int_tuple, ia_int_str, ia_int_seq, ia_str_int, ia_str_bool, ia_str_list, ia_str_tuple, ia_str_str, ia_str_seq, ia_list_int, ia_list_bool, ia_list_list, ia_list_tuple, ia_list_str, ia_list_seq, ia_tuple_int, ia_tuple_bool, ia_tuple_list, ia_tuple_tuple, ia_tuple_str, ia_tuple_seq, mLst_ap, mTup_ap, mYes_ap, frz, frzAll, peek, res1, resAll, stoAll, argOf, argsOf, bors, wback, outAt, outsFrom, ownsStay, retv, wipeF, unwipe, sto, isNone, tyD, cY, cMul, cMod, cDiv, cPow, Cell.data, b2n, atI, ixN, fMulL, sizeLine_v, h2, h3, h4, h5, h6, h7, A6]
theorem st7_ok (n : Nat) (p g r : PyData) (s : S0) (xs : List PyData) (hl : xs.length ≤ 100) : (mSet 2 (m2 fAddX (mVar 2) (mLst (mCons (mTup (mCons (mTup (mCons (mLit (.int 1)) mNil)) (mCons (mTup (mCons (mLit .none) mNil)) mNil))) mNil)))) [some s, some (.dat p), some (.own (.lst xs)), none, none, none, none, none] = some (.nx, [some s, some (.dat p), some (.own (.lst (xs ++ A7))), none, none, none, none, none]) := by
  have h1 : xs.length ≤ 16777216 - 6 := by omega
  have h2 : xs.length < 16777216 := by omega
  have h3 : xs.length + 1 ≤ 16777216 := by omega
  have h4 : xs.length + 2 ≤ 16777216 := by omega
  have h5 : xs.length + 3 ≤ 16777216 := by omega
  have h6 : xs.length + 4 ≤ 16777216 := by omega
  have h7 : xs.length + 5 ≤ 16777216 := by omega
  skip
  simp [mVar_ap, mLit_ap, m2_ap, mB_ap, mAndT_ap, mOrT_ap, mNotT_ap, mAndV_ap, mOrV_ap, mNotV_ap, mIfE_ap, mNil_ap, mCons_ap, mDisp_ap, gSet_ap, gsNil_ap, gsCons_ap, gTupD_ap, mSet_ap, mAsg_ap, mPar_ap, mExpr_ap, mRet_ap, mRetN_ap, mNext_ap, mBreak_ap, mCont_ap, mSeq_ap, mIf_ap, iSeq_ap, iRan_ap, iZp_ap, mFor_ap, mWhile_ap, mCall_ap, mkD_ap, mLc_ap, fI_ap, fAdd_ap, fSub_ap, fMul_ap, fMod_ap, fDiv_ap, fPow_ap, fLt_ap, fLe_ap, fGt_ap, fGe_ap, fIsN_ap, fNotN_ap, fIsB_ap, fIx_ap, fAddX_ap, fSubX_ap, fMulX_ap, m1_ap, fNeg_ap, mB1_ap, fLen_ap, fAbs_ap, fInt_ap, fMin2_ap, fMax2_ap, fList_ap, fTuple_ap, fStr_ap, mMt_ap, mMtZ_ap, fAppend_ap, fInsert_ap, fPopAt_ap, oNone_ap, oSome_ap, mSl_ap, gIx_ap, mIsi_ap, fEqX_ap, fNeX_ap, fAll_ap, fAny_ap, fSum_ap, fSorted_ap, fBest_ap, fIdx_ap, fRepr_ap, mPermA_ap, fBack_ap, gSplice_ap, mSortSet_ap, fMulY_ap, mTupRan_ap, fIsX_ap, ia_none_int, ia_none_bool, ia_none_list, ia_none_tuple, ia_none_str, ia_none_seq, ia_bool_int, ia_bool_bool, ia_bool_list, ia_bool_tuple, ia_bool_str, ia_bool_seq, ia_int_int, ia_int_bool, ia_int_list, ia_int_tuple, ia_int_str, ia_int_seq, ia_str_int, ia_str_bool, ia_str_list, ia_str_tuple, ia_str_str, ia_str_seq, ia_list_int, ia_list_bool, ia_list_list, ia_list_tuple, ia_list_str, ia_list_seq, ia_tuple_int, ia_tuple_bool, ia_tuple_list, ia_tuple_tuple, ia_tuple_str, ia_tuple_seq, mLst_ap, mTup_ap, mYes_ap, frz, frzAll, peek, res1, resAll, stoAll, argOf, argsOf, bors, wback, outAt, outsFrom, ownsStay, retv, wipeF, unwipe, sto, isNone, tyD, cY, cMul, cMod, cDiv, cPow, Cell.data, b2n, atI, ixN, fMulL, sizeLine_v, h2, h3, h4, h5, h6, h7, A7]
theorem st1_ok {n : Nat} {p g r ls : PyData} {s : S0} {v : SV} (hp : p = .tuple [g, r]) (e : D_lists n [.dat p] = some (v, [.dat p])) (hv : v = .dat ls ∨ ∃ c, v = .fre c ∧ c.data = ls) : (mSet 2 (mLst (mCons (mVar 1) (mCons (mB1 fList (mCons (mVar 1) mNil)) (mCons (mCall (D_lists n) (mCons (mVar 1) mNil)) (mCons (mTup mNil) (mCons (mLst mNil) (mCons (mLit .none) (mCons (mLit (.int 0)) (mCons (mLit (.str "shop")) (mCons (m2 fIx (mVar 1) (mLit (.int 0))) (mCons (m2 fIx (mVar 1) (mLit (.int 1))) (mCons (mTup (mCons (mTup mNil) (mCons (mTup (mCons (mTup (mCons (mLit (.int 1)) (mCons (mLit (.int 1)) mNil))) mNil)) mNil))) mNil))))))))))))) [some s, some (.dat p), none, none, none, none, none, none] = some (.nx, [some s, some (.dat p), some (.own (.lst (A1 p g r ls))), none, none, none, none, none]) := by
  subst hp
  rcases hv with rfl | ⟨⟨c⟩, rfl, hc⟩
  · simp [mVar_ap, mLit_ap, m2_ap, mB_ap, mAndT_ap, mOrT_ap, mNotT_ap, mAndV_ap, mOrV_ap, mNotV_ap, mIfE_ap, mNil_ap, mCons_ap, mDisp_ap, gSet_ap, gsNil_ap, gsCons_ap, gTupD_ap, mSet_ap, mAsg_ap, mPar_ap, mExpr_ap, mRet_ap, mRetN_ap, mNext_ap, mBreak_ap, mCont_ap, mSeq_ap, mIf_ap, iSeq_ap, iRan_ap, iZp_ap, mFor_ap, mWhile_ap, mCall_ap, mkD_ap, mLc_ap, fI_ap, fAdd_ap, fSub_ap, fMul_ap, fMod_ap, fDiv_ap, fPow_ap, fLt_ap, fLe_ap, fGt_ap, fGe_ap, fIsN_ap, fNotN_ap, fIsB_ap, fIx_ap, fAddX_ap, fSubX_ap, fMulX_ap, m1_ap, fNeg_ap, mB1_ap, fLen_ap, fAbs_ap, fInt_ap, fMin2_ap, fMax2_ap, fList_ap, fTuple_ap, fStr_ap, mMt_ap, mMtZ_ap, fAppend_ap, fInsert_ap, fPopAt_ap, oNone_ap, oSome_ap, mSl_ap, gIx_ap, mIsi_ap, fEqX_ap, fNeX_ap, fAll_ap, fAny_ap, fSum_ap, fSorted_ap, fBest_ap, fIdx_ap, fRepr_ap, mPermA_ap, fBack_ap, gSplice_ap, mSortSet_ap, fMulY_ap, mTupRan_ap, fIsX_ap, ia_none_int, ia_none_bool, ia_none_list, ia_none_tuple, ia_none_str, ia_none_seq, ia_bool_int, ia_bool_bool, ia_bool_list, ia_bool_tuple, ia_bool_str, ia_bool_seq, ia_int_int, ia_int_bool, ia_int_list, ia_int_tuple, ia_int_str, ia_int_seq, ia_str_int, ia_str_bool, ia_str_list, ia_str_tuple, ia_str_str, ia_str_seq, ia_list_int, ia_list_bool, ia_list_list, ia_list_tuple, ia_list_str, ia_list_seq, ia_tuple_int, ia_tuple_bool, ia_tuple_list, ia_tuple_tuple, ia_tuple_str, ia_tuple_seq, mLst_ap, mTup_ap, mYes_ap, frz, frzAll, peek, res1, resAll, stoAll, argOf, argsOf, bors, wback, outAt, outsFrom, ownsStay, retv, wipeF, unwipe, sto, isNone, tyD, cY, cMul, cMod, cDiv, cPow, Cell.data, b2n, atI, ixN, fMulL, sizeLine_v, e, A1]
  · simp only [Cell.data] at hc
    subst hc
    simp [mVar_ap, mLit_ap, m2_ap, mB_ap, mAndT_ap, mOrT_ap, mNotT_ap, mAndV_ap, mOrV_ap, mNotV_ap, mIfE_ap, mNil_ap, mCons_ap, mDisp_ap, gSet_ap, gsNil_ap, gsCons_ap, gTupD_ap, mSet_ap, mAsg_ap, mPar_ap, mExpr_ap, mRet_ap, mRetN_ap, mNext_ap, mBreak_ap, mCont_ap, mSeq_ap, mIf_ap, iSeq_ap, iRan_ap, iZp_ap, mFor_ap, mWhile_ap, mCall_ap, mkD_ap, mLc_ap, fI_ap, fAdd_ap, fSub_ap, fMul_ap, fMod_ap, fDiv_ap, fPow_ap, fLt_ap, fLe_ap, fGt_ap, fGe_ap, fIsN_ap, fNotN_ap, fIsB_ap, fIx_ap, fAddX_ap, fSubX_ap, fMulX_ap, m1_ap, fNeg_ap, mB1_ap, fLen_ap, fAbs_ap, fInt_ap, fMin2_ap, fMax2_ap, fList_ap, fTuple_ap, fStr_ap, mMt_ap, mMtZ_ap, fAppend_ap, fInsert_ap, fPopAt_ap, oNone_ap, oSome_ap, mSl_ap, gIx_ap, mIsi_ap, fEqX_ap, fNeX_ap, fAll_ap, fAny_ap, fSum_ap, fSorted_ap, fBest_ap, fIdx_ap, fRepr_ap, mPermA_ap, fBack_ap, gSplice_ap, mSortSet_ap, fMulY_ap, mTupRan_ap, fIsX_ap, ia_none_int, ia_none_bool, ia_none_list, ia_none_tuple, ia_none_str, ia_none_seq, ia_bool_int, ia_bool_bool, ia_bool_list, ia_bool_tuple, ia_bool_str, ia_bool_seq, ia_int_int, ia_int_bool, ia_int_list, ia_int_tuple, ia_int_str, ia_int_seq, ia_str_int, ia_str_bool, ia_str_list, ia_str_tuple, ia_str_str, ia_str_seq, ia_list_int, ia_list_bool, ia_list_list, ia_list_tuple, ia_list_str, ia_list_seq, ia_tuple_int, ia_tuple_bool, ia_tuple_list, ia_tuple_tuple, ia_tuple_str, ia_tuple_seq, mLst_ap, mTup_ap, mYes_ap, frz, frzAll, peek, res1, resAll, stoAll, argOf, argsOf, bors, wback, outAt, outsFrom, ownsStay, retv, wipeF, unwipe, sto, isNone, tyD, cY, cMul, cMod, cDiv, cPow, Cell.data, b2n, atI, ixN, fMulL, sizeLine_v, e, A1]
end Lk01

namespace Lk01
open PySem PySem.Spec PyProof.Rows L2 Rf
def LI (C : Int) (p : PyData) (k : Nat) (fm : Fm) : Prop := ∃ s ms x3 x5, fm = [some s, some (.dat p), some (.own (.lst ms)), x3, none, x5, none, none] ∧ Bx (C + 60 * k) s ∧ ms.length = 29 + k ∧ ∀ x ∈ ms, Sm x
theorem body1 {n : Nat} (hn : 12 ≤ n) {C : Int} {p d : PyData} (hp : Plt p) (hC : C ≤ 100000) (k : Nat) (hk : k < 16) (fm : Fm) (i : LI C p k fm) :
    ∃ fm1 fm2, gSet 3 d fm = some fm1 ∧ (mSeq (mSet 5 (mCall (D_bent n) (mCons (mVar 0) (mCons (mVar 1) mNil))))
    (mExpr (mMtZ "list" fAppend (mVar 2) (mCons (mIfE (mB (m2 fEqX (mCall (D_take n) (mCons (mVar 0) (mCons (mLit (.int 3)) mNil))) (mLit (.int 0)))) (mCall (D_bent n) (mCons (mVar 0) (mCons (mVar 5) mNil))) (mVar 5)) mNil)))) fm1 = some (.nx, fm2) ∧ LI C p (k + 1) fm2 := by
  obtain ⟨s, ms, x3, x5, rfl, i1, i2, i3⟩ := i
  have op := hp.ok
  obtain ⟨g, r, hpe, _, _⟩ := op.2.2.2
  obtain ⟨v, x, s1, a1, a2, a3, a4, a5⟩ := bent_ok (l := 7) (b := 1000000000) (by omega) (by omega) (by omega) (by decide) (h := 3) (n := n) (d := p) (C := C + 60 * k) (s := s) (by omega) (by omega) op.1 i1 (by omega)
  have hv : v = .dat x := by
    rcases a5 with h | ⟨⟨ds, h⟩, _⟩
    · exact h
    · rw [hpe] at h; simp at h
  subst hv
  obtain ⟨r3, s2, b1, b2, b3, b4⟩ := take_ok (n := n) (by omega) a2 (by omega) (k := 3) (by omega) (by omega)
  have a3' : Ok 8 1000000001 5 x := a3
  have smx : Sm x := ⟨a3'.mono (by decide) (by decide) (by decide), by omega⟩
  obtain ⟨q, rfl⟩ := i1.own
  obtain ⟨q1, rfl⟩ := a2.own
  obtain ⟨q2, rfl⟩ := b3.own
  have hms : ms.length < 16777216 := by omega
  by_cases hr : r3 = 0
  · obtain ⟨w, y, s3, c1, c2, c3, c4, c5⟩ := bent_ok (l := 8) (b := 1000000001) (by omega) (by omega) (by omega) (by decide) (h := 5) (n := n) (d := x) (C := C + 60 * k + 4 * ((3 : Nat) + 1) + 1) (s := .own (.lst q2)) (by omega) (by omega) a3' b3 (by omega)
    have c3' : Ok 9 1000000002 7 y := c3
    have smy : Sm y := ⟨c3'.mono (by decide) (by decide) (by decide), by omega⟩
    obtain ⟨q3, rfl⟩ := c2.own
    refine ⟨[some (.own (.lst q)), some (.dat p), some (.own (.lst ms)), some (.dat d), none, x5, none, none], [some (.own (.lst q3)), some (.dat p), some (.own (.lst (ms ++ [y]))), some (.dat d), none, some (.dat x), none, none], by simp [gSet_ap], ?_, ⟨_, _, _, _, rfl, c2.mono (by omega), by simp; omega, fun z m => ?_⟩⟩
    · subst hr
      rcases c5 with rfl | ⟨_, zs, rfl, rfl⟩
      · simp [mVar_ap, mLit_ap, m2_ap, mB_ap, mAndT_ap, mOrT_ap, mNotT_ap, mAndV_ap, mOrV_ap, mNotV_ap, mIfE_ap, mNil_ap, mCons_ap, mDisp_ap, gSet_ap, gsNil_ap, gsCons_ap, gTupD_ap, mSet_ap, mAsg_ap, mPar_ap, mExpr_ap, mRet_ap, mRetN_ap, mNext_ap, mBreak_ap, mCont_ap, mSeq_ap, mIf_ap, iSeq_ap, iRan_ap, iZp_ap, mFor_ap, mWhile_ap, mCall_ap, mkD_ap, mLc_ap, fI_ap, fAdd_ap, fSub_ap, fMul_ap, fMod_ap, fDiv_ap, fPow_ap, fLt_ap, fLe_ap, fGt_ap, fGe_ap, fIsN_ap, fNotN_ap, fIsB_ap, fIx_ap, fAddX_ap, fSubX_ap, fMulX_ap, m1_ap, fNeg_ap, mB1_ap, fLen_ap, fAbs_ap, fInt_ap, fMin2_ap, fMax2_ap, fList_ap, fTuple_ap, fStr_ap, mMt_ap, mMtZ_ap, fAppend_ap, fInsert_ap, fPopAt_ap, oNone_ap, oSome_ap, mSl_ap, gIx_ap, mIsi_ap, fEqX_ap, fNeX_ap, fAll_ap, fAny_ap, fSum_ap, fSorted_ap, fBest_ap, fIdx_ap, fRepr_ap, mPermA_ap, fBack_ap, gSplice_ap, mSortSet_ap, fMulY_ap, mTupRan_ap, fIsX_ap, ia_none_int, ia_none_bool, ia_none_list, ia_none_tuple, ia_none_str, ia_none_seq, ia_bool_int, ia_bool_bool, ia_bool_list, ia_bool_tuple, ia_bool_str, ia_bool_seq, ia_int_int, ia_int_bool, ia_int_list, ia_int_tuple, ia_int_str, ia_int_seq, ia_str_int, ia_str_bool, ia_str_list, ia_str_tuple, ia_str_str, ia_str_seq, ia_list_int, ia_list_bool, ia_list_list, ia_list_tuple, ia_list_str, ia_list_seq, ia_tuple_int, ia_tuple_bool, ia_tuple_list, ia_tuple_tuple, ia_tuple_str, ia_tuple_seq, mLst_ap, mTup_ap, mYes_ap, frz, frzAll, peek, res1, resAll, stoAll, argOf, argsOf, bors, wback, outAt, outsFrom, ownsStay, retv, wipeF, unwipe, sto, isNone, tyD, cY, cMul, cMod, cDiv, cPow, Cell.data, b2n, fMulL, a1, b4, c1, shaped_int, eqv_int, sizeLine_v, hms]
      · simp [mVar_ap, mLit_ap, m2_ap, mB_ap, mAndT_ap, mOrT_ap, mNotT_ap, mAndV_ap, mOrV_ap, mNotV_ap, mIfE_ap, mNil_ap, mCons_ap, mDisp_ap, gSet_ap, gsNil_ap, gsCons_ap, gTupD_ap, mSet_ap, mAsg_ap, mPar_ap, mExpr_ap, mRet_ap, mRetN_ap, mNext_ap, mBreak_ap, mCont_ap, mSeq_ap, mIf_ap, iSeq_ap, iRan_ap, iZp_ap, mFor_ap, mWhile_ap, mCall_ap, mkD_ap, mLc_ap, fI_ap, fAdd_ap, fSub_ap, fMul_ap, fMod_ap, fDiv_ap, fPow_ap, fLt_ap, fLe_ap, fGt_ap, fGe_ap, fIsN_ap, fNotN_ap, fIsB_ap, fIx_ap, fAddX_ap, fSubX_ap, fMulX_ap, m1_ap, fNeg_ap, mB1_ap, fLen_ap, fAbs_ap, fInt_ap, fMin2_ap, fMax2_ap, fList_ap, fTuple_ap, fStr_ap, mMt_ap, mMtZ_ap, fAppend_ap, fInsert_ap, fPopAt_ap, oNone_ap, oSome_ap, mSl_ap, gIx_ap, mIsi_ap, fEqX_ap, fNeX_ap, fAll_ap, fAny_ap, fSum_ap, fSorted_ap, fBest_ap, fIdx_ap, fRepr_ap, mPermA_ap, fBack_ap, gSplice_ap, mSortSet_ap, fMulY_ap, mTupRan_ap, fIsX_ap, ia_none_int, ia_none_bool, ia_none_list, ia_none_tuple, ia_none_str, ia_none_seq, ia_bool_int, ia_bool_bool, ia_bool_list, ia_bool_tuple, ia_bool_str, ia_bool_seq, ia_int_int, ia_int_bool, ia_int_list, ia_int_tuple, ia_int_str, ia_int_seq, ia_str_int, ia_str_bool, ia_str_list, ia_str_tuple, ia_str_str, ia_str_seq, ia_list_int, ia_list_bool, ia_list_list, ia_list_tuple, ia_list_str, ia_list_seq, ia_tuple_int, ia_tuple_bool, ia_tuple_list, ia_tuple_tuple, ia_tuple_str, ia_tuple_seq, mLst_ap, mTup_ap, mYes_ap, frz, frzAll, peek, res1, resAll, stoAll, argOf, argsOf, bors, wback, outAt, outsFrom, ownsStay, retv, wipeF, unwipe, sto, isNone, tyD, cY, cMul, cMod, cDiv, cPow, Cell.data, b2n, fMulL, a1, b4, c1, shaped_int, eqv_int, sizeLine_v, hms]
    · rcases List.mem_append.1 m with m | m
      · exact i3 z m
      · simp at m; subst m; exact smy
  · refine ⟨[some (.own (.lst q)), some (.dat p), some (.own (.lst ms)), some (.dat d), none, x5, none, none], [some (.own (.lst q2)), some (.dat p), some (.own (.lst (ms ++ [x]))), some (.dat d), none, some (.dat x), none, none], by simp [gSet_ap], ?_, ⟨_, _, _, _, rfl, b3.mono (by omega), by simp; omega, fun z m => ?_⟩⟩
    · simp [mVar_ap, mLit_ap, m2_ap, mB_ap, mAndT_ap, mOrT_ap, mNotT_ap, mAndV_ap, mOrV_ap, mNotV_ap, mIfE_ap, mNil_ap, mCons_ap, mDisp_ap, gSet_ap, gsNil_ap, gsCons_ap, gTupD_ap, mSet_ap, mAsg_ap, mPar_ap, mExpr_ap, mRet_ap, mRetN_ap, mNext_ap, mBreak_ap, mCont_ap, mSeq_ap, mIf_ap, iSeq_ap, iRan_ap, iZp_ap, mFor_ap, mWhile_ap, mCall_ap, mkD_ap, mLc_ap, fI_ap, fAdd_ap, fSub_ap, fMul_ap, fMod_ap, fDiv_ap, fPow_ap, fLt_ap, fLe_ap, fGt_ap, fGe_ap, fIsN_ap, fNotN_ap, fIsB_ap, fIx_ap, fAddX_ap, fSubX_ap, fMulX_ap, m1_ap, fNeg_ap, mB1_ap, fLen_ap, fAbs_ap, fInt_ap, fMin2_ap, fMax2_ap, fList_ap, fTuple_ap, fStr_ap, mMt_ap, mMtZ_ap, fAppend_ap, fInsert_ap, fPopAt_ap, oNone_ap, oSome_ap, mSl_ap, gIx_ap, mIsi_ap, fEqX_ap, fNeX_ap, fAll_ap, fAny_ap, fSum_ap, fSorted_ap, fBest_ap, fIdx_ap, fRepr_ap, mPermA_ap, fBack_ap, gSplice_ap, mSortSet_ap, fMulY_ap, mTupRan_ap, fIsX_ap, ia_none_int, ia_none_bool, ia_none_list, ia_none_tuple, ia_none_str, ia_none_seq, ia_bool_int, ia_bool_bool, ia_bool_list, ia_bool_tuple, ia_bool_str, ia_bool_seq, ia_int_int, ia_int_bool, ia_int_list, ia_int_tuple, ia_int_str, ia_int_seq, ia_str_int, ia_str_bool, ia_str_list, ia_str_tuple, ia_str_str, ia_str_seq, ia_list_int, ia_list_bool, ia_list_list, ia_list_tuple, ia_list_str, ia_list_seq, ia_tuple_int, ia_tuple_bool, ia_tuple_list, ia_tuple_tuple, ia_tuple_str, ia_tuple_seq, mLst_ap, mTup_ap, mYes_ap, frz, frzAll, peek, res1, resAll, stoAll, argOf, argsOf, bors, wback, outAt, outsFrom, ownsStay, retv, wipeF, unwipe, sto, isNone, tyD, cY, cMul, cMod, cDiv, cPow, Cell.data, b2n, fMulL, a1, b4, shaped_int, eqv_int, sizeLine_v, hms, hr]
    · rcases List.mem_append.1 m with m | m
      · exact i3 z m
      · simp at m; subst m; exact smx
theorem wback_fre (a b : Cell) (outs : List S0) (fm : Fm) : wback [.fre a, .fre b] outs fm = fm := by
  match outs with
  | [] => rfl
  | [_] => rfl
  | _ :: _ :: _ => rfl
def LJ (s : S0) (p : PyData) (ms : List PyData) (fm : Fm) : Prop := ∃ x3 x4 x5 x6 x7, fm = [some s, some (.dat p), some (.dat (.list ms)), x3, x4, x5, x6, x7]
theorem body2 {n : Nat} (hn : 12 ≤ n) {p d : PyData} {s : S0} {ms : List PyData} (hd : Sm d) (fm : Fm) (i : LJ s p ms fm) :
    ∃ fm1 fm2, gSet 4 d fm = some fm1 ∧ (mSeq (mPar [6, 7] (mCons (mCall (D_is_plant n) (mCons (mVar 4) mNil)) (mCons (mB1 fRepr (mCons (mVar 4) mNil)) mNil)))
    (mIf (mOrT (mNotT (mB (mCall (D_same n) (mCons (mLst (mCons (mCall (Dis_shop n) (mCons (mVar 4) mNil)) (mCons (mCall (Dis_shop n) (mPermA [0] 1 (mCons (mVar 4) mNil))) mNil))) (mCons (mLst (mCons (mVar 6) (mCons (mVar 6) mNil))) mNil))))) (mB (m2 fNeX (mB1 fRepr (mCons (mVar 4) mNil)) (mVar 7)))) (mRet (mLit (.bool false))) mNext)) fm1 = some (.nx, fm2) ∧ LJ s p ms fm2 := by
  obtain ⟨x3, x4, x5, x6, x7, rfl⟩ := i
  have h1 := plant_ok (n := n) (by omega) hd.pl
  have h2 := shop_ok (n := n) (by omega) hd.pl
  have h3 := hd.rep
  obtain ⟨outs, h4⟩ := same2 (n := n) (by omega) (shopB d)
  have st1 : mPar [6, 7] (mCons (mCall (D_is_plant n) (mCons (mVar 4) mNil)) (mCons (mB1 fRepr (mCons (mVar 4) mNil)) mNil)) [some s, some (.dat p), some (.dat (.list ms)), x3, some (.dat d), x5, x6, x7] = some (.nx, [some s, some (.dat p), some (.dat (.list ms)), x3, some (.dat d), x5, some (.dat (.bool (shopB d))), some (.dat (.str d.shown))]) := by
    simp [mVar_ap, mLit_ap, m2_ap, mB_ap, mAndT_ap, mOrT_ap, mNotT_ap, mAndV_ap, mOrV_ap, mNotV_ap, mIfE_ap, mNil_ap, mCons_ap, mDisp_ap, gSet_ap, gsNil_ap, gsCons_ap, gTupD_ap, mSet_ap, mAsg_ap, mPar_ap, mExpr_ap, mRet_ap, mRetN_ap, mNext_ap, mBreak_ap, mCont_ap, mSeq_ap, mIf_ap, iSeq_ap, iRan_ap, iZp_ap, mFor_ap, mWhile_ap, mCall_ap, mkD_ap, mLc_ap, fI_ap, fAdd_ap, fSub_ap, fMul_ap, fMod_ap, fDiv_ap, fPow_ap, fLt_ap, fLe_ap, fGt_ap, fGe_ap, fIsN_ap, fNotN_ap, fIsB_ap, fIx_ap, fAddX_ap, fSubX_ap, fMulX_ap, m1_ap, fNeg_ap, mB1_ap, fLen_ap, fAbs_ap, fInt_ap, fMin2_ap, fMax2_ap, fList_ap, fTuple_ap, fStr_ap, mMt_ap, mMtZ_ap, fAppend_ap, fInsert_ap, fPopAt_ap, oNone_ap, oSome_ap, mSl_ap, gIx_ap, mIsi_ap, fEqX_ap, fNeX_ap, fAll_ap, fAny_ap, fSum_ap, fSorted_ap, fBest_ap, fIdx_ap, fRepr_ap, mPermA_ap, fBack_ap, gSplice_ap, mSortSet_ap, fMulY_ap, mTupRan_ap, fIsX_ap, ia_none_int, ia_none_bool, ia_none_list, ia_none_tuple, ia_none_str, ia_none_seq, ia_bool_int, ia_bool_bool, ia_bool_list, ia_bool_tuple, ia_bool_str, ia_bool_seq, ia_int_int, ia_int_bool, ia_int_list, ia_int_tuple, ia_int_str, ia_int_seq, ia_str_int, ia_str_bool, ia_str_list, ia_str_tuple, ia_str_str, ia_str_seq, ia_list_int, ia_list_bool, ia_list_list, ia_list_tuple, ia_list_str, ia_list_seq, ia_tuple_int, ia_tuple_bool, ia_tuple_list, ia_tuple_tuple, ia_tuple_str, ia_tuple_seq, mLst_ap, mTup_ap, mYes_ap, frz, frzAll, peek, res1, resAll, stoAll, argOf, argsOf, bors, wback, outAt, outsFrom, ownsStay, retv, wipeF, unwipe, sto, isNone, tyD, cY, cMul, cMod, cDiv, cPow, Cell.data, b2n, fMulL, h1, h3]
  refine ⟨[some s, some (.dat p), some (.dat (.list ms)), x3, some (.dat d), x5, x6, x7], [some s, some (.dat p), some (.dat (.list ms)), x3, some (.dat d), x5, some (.dat (.bool (shopB d))), some (.dat (.str d.shown))], by simp [gSet_ap], ?_, ⟨_, _, _, _, _, rfl⟩⟩
  rw [mSeq_nx st1]
  simp [mVar_ap, mLit_ap, m2_ap, mB_ap, mAndT_ap, mOrT_ap, mNotT_ap, mAndV_ap, mOrV_ap, mNotV_ap, mIfE_ap, mNil_ap, mCons_ap, mDisp_ap, gSet_ap, gsNil_ap, gsCons_ap, gTupD_ap, mSet_ap, mAsg_ap, mPar_ap, mExpr_ap, mRet_ap, mRetN_ap, mNext_ap, mBreak_ap, mCont_ap, mSeq_ap, mIf_ap, iSeq_ap, iRan_ap, iZp_ap, mFor_ap, mWhile_ap, mCall_ap, mkD_ap, mLc_ap, fI_ap, fAdd_ap, fSub_ap, fMul_ap, fMod_ap, fDiv_ap, fPow_ap, fLt_ap, fLe_ap, fGt_ap, fGe_ap, fIsN_ap, fNotN_ap, fIsB_ap, fIx_ap, fAddX_ap, fSubX_ap, fMulX_ap, m1_ap, fNeg_ap, mB1_ap, fLen_ap, fAbs_ap, fInt_ap, fMin2_ap, fMax2_ap, fList_ap, fTuple_ap, fStr_ap, mMt_ap, mMtZ_ap, fAppend_ap, fInsert_ap, fPopAt_ap, oNone_ap, oSome_ap, mSl_ap, gIx_ap, mIsi_ap, fEqX_ap, fNeX_ap, fAll_ap, fAny_ap, fSum_ap, fSorted_ap, fBest_ap, fIdx_ap, fRepr_ap, mPermA_ap, fBack_ap, gSplice_ap, mSortSet_ap, fMulY_ap, mTupRan_ap, fIsX_ap, ia_none_int, ia_none_bool, ia_none_list, ia_none_tuple, ia_none_str, ia_none_seq, ia_bool_int, ia_bool_bool, ia_bool_list, ia_bool_tuple, ia_bool_str, ia_bool_seq, ia_int_int, ia_int_bool, ia_int_list, ia_int_tuple, ia_int_str, ia_int_seq, ia_str_int, ia_str_bool, ia_str_list, ia_str_tuple, ia_str_str, ia_str_seq, ia_list_int, ia_list_bool, ia_list_list, ia_list_tuple, ia_list_str, ia_list_seq, ia_tuple_int, ia_tuple_bool, ia_tuple_list, ia_tuple_tuple, ia_tuple_str, ia_tuple_seq, mLst_ap, mTup_ap, mYes_ap, frz, frzAll, peek, res1, resAll, stoAll, argOf, argsOf, bors, wback, outAt, outsFrom, ownsStay, retv, wipeF, unwipe, sto, isNone, tyD, cY, cMul, cMod, cDiv, cPow, Cell.data, b2n, fMulL, h2, h3, h4, wback_fre, permL, okPm, sizeLine_v]
theorem loopM_all {g : MG} {m : MS} (I : Fm → Prop) : ∀ (ds : List PyData) (fm : Fm), (∀ d ∈ ds, ∀ fm, I fm → ∃ fm1 fm2, g d fm = some fm1 ∧ m fm1 = some (.nx, fm2) ∧ I fm2) → I fm → ∃ fm', loopM g m ds fm = some (.nx, fm') ∧ I fm'
  | [], fm, _, i => ⟨fm, by simp [loopM], i⟩
  | d :: ds, fm, h, i => by
    obtain ⟨fm1, fm2, h1, h2, h3⟩ := h d (by simp) fm i
    obtain ⟨fm', e1, e2⟩ := loopM_all (g := g) (m := m) I ds fm2 (fun e m => h e (by simp [m])) h3
    exact ⟨fm', by simp only [loopM, h1, h2, e1], e2⟩
theorem right_ok {n : Nat} (hn : 13 ≤ n) {C : Int} {s : S0} (hs : Bx C s) (hC : C ≤ 1000) : ∃ s', D_right n [s] = some (.dat (.bool true), [s']) := by
  obtain ⟨n, rfl⟩ : ∃ m, n = m + 1 := ⟨n - 1, by omega⟩
  rw [e_right]
  obtain ⟨p, stand, s1, a1, a2, hp⟩ := plant_made (n := n) (by omega) hs (by omega)
  have op := hp.ok
  obtain ⟨g, r, hpe, hg, hr⟩ := op.2.2.2
  obtain ⟨ls, v, b1, b2, b3, b4⟩ := lists_ok (l := 7) (b := 1000000000) (by omega) (h := 3) (n := n) (d := p) (by omega) op.1
  have sls : Sm ls := ⟨b2.mono (by decide) (by decide) (by decide), by omega⟩
  have hall := AA_ok hp hpe hg hr sls
  have st0 : (mSet 1 (m2 fIx (mCall (D_plant n) (mCons (mVar 0) (mCons (mLit (.int 5)) (mCons (mLit (.int 7)) mNil)))) (mLit (.int 0)))) [some s, none, none, none, none, none, none, none] = some (.nx, [some s1, some (.dat p), none, none, none, none, none, none]) := by
    obtain ⟨q, rfl⟩ := hs.own
    obtain ⟨q1, rfl⟩ := a2.own
    simp [mVar_ap, mLit_ap, m2_ap, mB_ap, mAndT_ap, mOrT_ap, mNotT_ap, mAndV_ap, mOrV_ap, mNotV_ap, mIfE_ap, mNil_ap, mCons_ap, mDisp_ap, gSet_ap, gsNil_ap, gsCons_ap, gTupD_ap, mSet_ap, mAsg_ap, mPar_ap, mExpr_ap, mRet_ap, mRetN_ap, mNext_ap, mBreak_ap, mCont_ap, mSeq_ap, mIf_ap, iSeq_ap, iRan_ap, iZp_ap, mFor_ap, mWhile_ap, mCall_ap, mkD_ap, mLc_ap, fI_ap, fAdd_ap, fSub_ap, fMul_ap, fMod_ap, fDiv_ap, fPow_ap, fLt_ap, fLe_ap, fGt_ap, fGe_ap, fIsN_ap, fNotN_ap, fIsB_ap, fIx_ap, fAddX_ap, fSubX_ap, fMulX_ap, m1_ap, fNeg_ap, mB1_ap, fLen_ap, fAbs_ap, fInt_ap, fMin2_ap, fMax2_ap, fList_ap, fTuple_ap, fStr_ap, mMt_ap, mMtZ_ap, fAppend_ap, fInsert_ap, fPopAt_ap, oNone_ap, oSome_ap, mSl_ap, gIx_ap, mIsi_ap, fEqX_ap, fNeX_ap, fAll_ap, fAny_ap, fSum_ap, fSorted_ap, fBest_ap, fIdx_ap, fRepr_ap, mPermA_ap, fBack_ap, gSplice_ap, mSortSet_ap, fMulY_ap, mTupRan_ap, fIsX_ap, ia_none_int, ia_none_bool, ia_none_list, ia_none_tuple, ia_none_str, ia_none_seq, ia_bool_int, ia_bool_bool, ia_bool_list, ia_bool_tuple, ia_bool_str, ia_bool_seq, ia_int_int, ia_int_bool, ia_int_list, ia_int_tuple, ia_int_str, ia_int_seq, ia_str_int, ia_str_bool, ia_str_list, ia_str_tuple, ia_str_str, ia_str_seq, ia_list_int, ia_list_bool, ia_list_list, ia_list_tuple, ia_list_str, ia_list_seq, ia_tuple_int, ia_tuple_bool, ia_tuple_list, ia_tuple_tuple, ia_tuple_str, ia_tuple_seq, mLst_ap, mTup_ap, mYes_ap, frz, frzAll, peek, res1, resAll, stoAll, argOf, argsOf, bors, wback, outAt, outsFrom, ownsStay, retv, wipeF, unwipe, sto, isNone, tyD, cY, cMul, cMod, cDiv, cPow, Cell.data, b2n, atI, ixN, fMulL, a1]
  have st1 := st1_ok (s := s1) hpe b1 b4
  have st2 := st2_ok n p g r s1 (A1 p g r ls) (by simp [A1])
  have st3 := st3_ok n p g r s1 (A1 p g r ls ++ A2) (by simp [A1, A2])
  have st4 := st4_ok n p g r s1 (A1 p g r ls ++ A2 ++ A3) (by simp [A1, A2, A3])
  have st5 := st5_ok n p g r s1 (A1 p g r ls ++ A2 ++ A3 ++ A4) (by simp [A1, A2, A3, A4]) hpe
  have st6 := st6_ok n p g r s1 (A1 p g r ls ++ A2 ++ A3 ++ A4 ++ A5 g r) (by simp [A1, A2, A3, A4, A5])
  have st7 := st7_ok n p g r s1 (A1 p g r ls ++ A2 ++ A3 ++ A4 ++ A5 g r ++ A6) (by simp [A1, A2, A3, A4, A5, A6])
  have hlen : (Rf.intsFrom 0 16).length = 16 := by simp [Rf.intsFrom]
  obtain ⟨fm1, l1, l2⟩ := loopM_inv2 (g := gSet 3) (m := (mSeq (mSet 5 (mCall (D_bent n) (mCons (mVar 0) (mCons (mVar 1) mNil))))
    (mExpr (mMtZ "list" fAppend (mVar 2) (mCons (mIfE (mB (m2 fEqX (mCall (D_take n) (mCons (mVar 0) (mCons (mLit (.int 3)) mNil))) (mLit (.int 0)))) (mCall (D_bent n) (mCons (mVar 0) (mCons (mVar 5) mNil))) (mVar 5)) mNil))))) (LI (C + 100) p) 16 (Rf.intsFrom 0 16) 0 [some s1, some (.dat p), some (.own (.lst (AA p g r ls))), none, none, none, none, none] (fun d m k fm hk i => body1 (by omega) hp (by omega) k hk fm i) (by rw [hlen]; omega) ⟨s1, AA p g r ls, none, none, rfl, a2.mono (by omega), rfl, hall⟩
  obtain ⟨s2, ms, x3, x5, rfl, i1, i2, i3⟩ := l2
  have st8 : (mFor (iRan (mCons (mLit (.int 16)) mNil)) (gSet 3) (mSeq (mSet 5 (mCall (D_bent n) (mCons (mVar 0) (mCons (mVar 1) mNil))))
    (mExpr (mMtZ "list" fAppend (mVar 2) (mCons (mIfE (mB (m2 fEqX (mCall (D_take n) (mCons (mVar 0) (mCons (mLit (.int 3)) mNil))) (mLit (.int 0)))) (mCall (D_bent n) (mCons (mVar 0) (mCons (mVar 5) mNil))) (mVar 5)) mNil))))) [some s1, some (.dat p), some (.own (.lst (AA p g r ls))), none, none, none, none, none] = some (.nx, [some s2, some (.dat p), some (.own (.lst ms)), x3, none, x5, none, none]) := by
    rw [mFor_ap]
    simp [iRan_ap, mCons_ap, mNil_ap, mLit_ap]
    exact l1
  obtain ⟨fm2, l3, l4⟩ := loopM_all (g := gSet 4) (m := (mSeq (mPar [6, 7] (mCons (mCall (D_is_plant n) (mCons (mVar 4) mNil)) (mCons (mB1 fRepr (mCons (mVar 4) mNil)) mNil)))
    (mIf (mOrT (mNotT (mB (mCall (D_same n) (mCons (mLst (mCons (mCall (Dis_shop n) (mCons (mVar 4) mNil)) (mCons (mCall (Dis_shop n) (mPermA [0] 1 (mCons (mVar 4) mNil))) mNil))) (mCons (mLst (mCons (mVar 6) (mCons (mVar 6) mNil))) mNil))))) (mB (m2 fNeX (mB1 fRepr (mCons (mVar 4) mNil)) (mVar 7)))) (mRet (mLit (.bool false))) mNext))) (LJ s2 p ms) ms [some s2, some (.dat p), some (.dat (.list ms)), x3, none, x5, none, none] (fun d m fm i => body2 (by omega) (i3 d m) fm i) ⟨_, _, _, _, _, rfl⟩
  obtain ⟨y3, y4, y5, y6, y7, rfl⟩ := l4
  have st9 : (mFor (iSeq (mVar 2)) (gSet 4) (mSeq (mPar [6, 7] (mCons (mCall (D_is_plant n) (mCons (mVar 4) mNil)) (mCons (mB1 fRepr (mCons (mVar 4) mNil)) mNil)))
    (mIf (mOrT (mNotT (mB (mCall (D_same n) (mCons (mLst (mCons (mCall (Dis_shop n) (mCons (mVar 4) mNil)) (mCons (mCall (Dis_shop n) (mPermA [0] 1 (mCons (mVar 4) mNil))) mNil))) (mCons (mLst (mCons (mVar 6) (mCons (mVar 6) mNil))) mNil))))) (mB (m2 fNeX (mB1 fRepr (mCons (mVar 4) mNil)) (mVar 7)))) (mRet (mLit (.bool false))) mNext))) [some s2, some (.dat p), some (.own (.lst ms)), x3, none, x5, none, none] = some (.nx, [some s2, some (.dat p), some (.dat (.list ms)), y3, y4, y5, y6, y7]) := by
    rw [mFor_ap]
    simp [iSeq_ap, mVar_ap, frz, Cell.data]
    exact l3
  have h2 := shop_ok (n := n) (by omega) (Ok.pl (by omega) 3 (by omega) op.1)
  rw [op.2.2.1] at h2
  have whole : b_right n [some s, none, none, none, none, none, none, none] = some (.rt (.dat (.bool true)), [some s2, some (.dat p), some (.dat (.list ms)), y3, y4, y5, y6, y7]) := by
    unfold b_right
    rw [mSeq_nx st0, mSeq_nx st1, mSeq_nx st2, mSeq_nx st3, mSeq_nx st4, mSeq_nx st5, mSeq_nx st6, mSeq_nx st7]
    rw [show A1 p g r ls ++ A2 ++ A3 ++ A4 ++ A5 g r ++ A6 ++ A7 = AA p g r ls from rfl, mSeq_nx st8, mSeq_nx st9]
    simp [mVar_ap, mLit_ap, m2_ap, mB_ap, mAndT_ap, mOrT_ap, mNotT_ap, mAndV_ap, mOrV_ap, mNotV_ap, mIfE_ap, mNil_ap, mCons_ap, mDisp_ap, gSet_ap, gsNil_ap, gsCons_ap, gTupD_ap, mSet_ap, mAsg_ap, mPar_ap, mExpr_ap, mRet_ap, mRetN_ap, mNext_ap, mBreak_ap, mCont_ap, mSeq_ap, mIf_ap, iSeq_ap, iRan_ap, iZp_ap, mFor_ap, mWhile_ap, mCall_ap, mkD_ap, mLc_ap, fI_ap, fAdd_ap, fSub_ap, fMul_ap, fMod_ap, fDiv_ap, fPow_ap, fLt_ap, fLe_ap, fGt_ap, fGe_ap, fIsN_ap, fNotN_ap, fIsB_ap, fIx_ap, fAddX_ap, fSubX_ap, fMulX_ap, m1_ap, fNeg_ap, mB1_ap, fLen_ap, fAbs_ap, fInt_ap, fMin2_ap, fMax2_ap, fList_ap, fTuple_ap, fStr_ap, mMt_ap, mMtZ_ap, fAppend_ap, fInsert_ap, fPopAt_ap, oNone_ap, oSome_ap, mSl_ap, gIx_ap, mIsi_ap, fEqX_ap, fNeX_ap, fAll_ap, fAny_ap, fSum_ap, fSorted_ap, fBest_ap, fIdx_ap, fRepr_ap, mPermA_ap, fBack_ap, gSplice_ap, mSortSet_ap, fMulY_ap, mTupRan_ap, fIsX_ap, ia_none_int, ia_none_bool, ia_none_list, ia_none_tuple, ia_none_str, ia_none_seq, ia_bool_int, ia_bool_bool, ia_bool_list, ia_bool_tuple, ia_bool_str, ia_bool_seq, ia_int_int, ia_int_bool, ia_int_list, ia_int_tuple, ia_int_str, ia_int_seq, ia_str_int, ia_str_bool, ia_str_list, ia_str_tuple, ia_str_str, ia_str_seq, ia_list_int, ia_list_bool, ia_list_list, ia_list_tuple, ia_list_str, ia_list_seq, ia_tuple_int, ia_tuple_bool, ia_tuple_list, ia_tuple_tuple, ia_tuple_str, ia_tuple_seq, mLst_ap, mTup_ap, mYes_ap, frz, frzAll, peek, res1, resAll, stoAll, argOf, argsOf, bors, wback, outAt, outsFrom, ownsStay, retv, wipeF, unwipe, sto, isNone, tyD, cY, cMul, cMod, cDiv, cPow, Cell.data, b2n, fMulL, h2]
  refine ⟨s2, ?_⟩
  rw [mkD_ap]
  simp only [List.length_cons, List.length_nil, List.map_cons, List.map_nil, List.replicate, List.cons_append, List.nil_append, ↓reduceIte, Nat.reduceAdd, Nat.reduceSub, whole]
  simp [retv, outsFrom, outAt]
theorem lawAt {n : Nat} (hn : 14 ≤ n) (ns : List Int) (h : ns.length ≤ 63) : ∃ outs, Dlaw n [.dat (scr ns)] = some (.dat (.bool true), outs) := by
  obtain ⟨n, rfl⟩ : ∃ m, n = m + 1 := ⟨n - 1, by omega⟩
  rw [elaw]
  obtain ⟨k, hk⟩ : ∃ k : Int, k = (if (ns.length : Int) < 3 then (ns.length : Int) else 3) := ⟨_, rfl⟩
  have hk1 : 0 ≤ k ∧ k ≤ 3 := by rw [hk]; split <;> omega
  obtain ⟨fm', l1, l2⟩ := loopM_all (g := gSet 1) (m := mSeq (mSet 2 (mCall (D_box n) (mCons (mVar 0) (mCons (mVar 1) mNil)))) (mIf (mNotT (mB (mB1 fAll (mCons (mLc 4 (iRan (mCons (mLit (.int 1)) mNil)) (gSet 3) mYes (mCall (D_right n) (mCons (mVar 2) mNil)) [3]) mNil)))) (mRet (mLit (.bool false))) mNext)) (fun fm => ∃ x1 x2, fm = [some (.dat (scr ns)), x1, x2, none]) (Rf.intsFrom 0 (1 + k).toNat) [some (.dat (scr ns)), none, none, none] (by
    intro d m fm i
    obtain ⟨x1, x2, rfl⟩ := i
    obtain ⟨j, hj, rfl⟩ := List.mem_map.1 m
    have hj := List.mem_range.1 hj
    obtain ⟨s', b1, c, rfl, b2⟩ := box_ok (n := n) (by omega) (ns := ns) (k := 0 + (j : Int)) (by omega) (by omega) h
    obtain ⟨s2, r1⟩ := right_ok (n := n) (by omega) b1 (by omega)
    refine ⟨[some (.dat (scr ns)), some (.dat (.int (0 + (j : Int)))), x2, none], [some (.dat (scr ns)), some (.dat (.int (0 + (j : Int)))), some s2, none], by simp [gSet_ap], ?_, ⟨_, _, rfl⟩⟩
    have st1 : mSet 2 (mCall (D_box n) (mCons (mVar 0) (mCons (mVar 1) mNil))) [some (.dat (scr ns)), some (.dat (.int (0 + (j : Int)))), x2, none] = some (.nx, [some (.dat (scr ns)), some (.dat (.int (0 + (j : Int)))), some (.own c), none]) := by
      generalize hz : (0 + (j : Int)) = z at b2
      simp [mVar_ap, mLit_ap, m2_ap, mB_ap, mAndT_ap, mOrT_ap, mNotT_ap, mAndV_ap, mOrV_ap, mNotV_ap, mIfE_ap, mNil_ap, mCons_ap, mDisp_ap, gSet_ap, gsNil_ap, gsCons_ap, gTupD_ap, mSet_ap, mAsg_ap, mPar_ap, mExpr_ap, mRet_ap, mRetN_ap, mNext_ap, mBreak_ap, mCont_ap, mSeq_ap, mIf_ap, iSeq_ap, iRan_ap, iZp_ap, mFor_ap, mWhile_ap, mCall_ap, mkD_ap, mLc_ap, fI_ap, fAdd_ap, fSub_ap, fMul_ap, fMod_ap, fDiv_ap, fPow_ap, fLt_ap, fLe_ap, fGt_ap, fGe_ap, fIsN_ap, fNotN_ap, fIsB_ap, fIx_ap, fAddX_ap, fSubX_ap, fMulX_ap, m1_ap, fNeg_ap, mB1_ap, fLen_ap, fAbs_ap, fInt_ap, fMin2_ap, fMax2_ap, fList_ap, fTuple_ap, fStr_ap, mMt_ap, mMtZ_ap, fAppend_ap, fInsert_ap, fPopAt_ap, oNone_ap, oSome_ap, mSl_ap, gIx_ap, mIsi_ap, fEqX_ap, fNeX_ap, fAll_ap, fAny_ap, fSum_ap, fSorted_ap, fBest_ap, fIdx_ap, fRepr_ap, mPermA_ap, fBack_ap, gSplice_ap, mSortSet_ap, fMulY_ap, mTupRan_ap, fIsX_ap, ia_none_int, ia_none_bool, ia_none_list, ia_none_tuple, ia_none_str, ia_none_seq, ia_bool_int, ia_bool_bool, ia_bool_list, ia_bool_tuple, ia_bool_str, ia_bool_seq, ia_int_int, ia_int_bool, ia_int_list, ia_int_tuple, ia_int_str, ia_int_seq, ia_str_int, ia_str_bool, ia_str_list, ia_str_tuple, ia_str_str, ia_str_seq, ia_list_int, ia_list_bool, ia_list_list, ia_list_tuple, ia_list_str, ia_list_seq, ia_tuple_int, ia_tuple_bool, ia_tuple_list, ia_tuple_tuple, ia_tuple_str, ia_tuple_seq, mLst_ap, mTup_ap, mYes_ap, frz, frzAll, peek, res1, resAll, stoAll, argOf, argsOf, bors, wback, outAt, outsFrom, ownsStay, retv, wipeF, unwipe, sto, isNone, tyD, cY, cMul, cMod, cDiv, cPow, Cell.data, b2n, fMulL, b2]
    rw [mSeq_nx st1]
    simp [mVar_ap, mLit_ap, m2_ap, mB_ap, mAndT_ap, mOrT_ap, mNotT_ap, mAndV_ap, mOrV_ap, mNotV_ap, mIfE_ap, mNil_ap, mCons_ap, mDisp_ap, gSet_ap, gsNil_ap, gsCons_ap, gTupD_ap, mSet_ap, mAsg_ap, mPar_ap, mExpr_ap, mRet_ap, mRetN_ap, mNext_ap, mBreak_ap, mCont_ap, mSeq_ap, mIf_ap, iSeq_ap, iRan_ap, iZp_ap, mFor_ap, mWhile_ap, mCall_ap, mkD_ap, mLc_ap, fI_ap, fAdd_ap, fSub_ap, fMul_ap, fMod_ap, fDiv_ap, fPow_ap, fLt_ap, fLe_ap, fGt_ap, fGe_ap, fIsN_ap, fNotN_ap, fIsB_ap, fIx_ap, fAddX_ap, fSubX_ap, fMulX_ap, m1_ap, fNeg_ap, mB1_ap, fLen_ap, fAbs_ap, fInt_ap, fMin2_ap, fMax2_ap, fList_ap, fTuple_ap, fStr_ap, mMt_ap, mMtZ_ap, fAppend_ap, fInsert_ap, fPopAt_ap, oNone_ap, oSome_ap, mSl_ap, gIx_ap, mIsi_ap, fEqX_ap, fNeX_ap, fAll_ap, fAny_ap, fSum_ap, fSorted_ap, fBest_ap, fIdx_ap, fRepr_ap, mPermA_ap, fBack_ap, gSplice_ap, mSortSet_ap, fMulY_ap, mTupRan_ap, fIsX_ap, ia_none_int, ia_none_bool, ia_none_list, ia_none_tuple, ia_none_str, ia_none_seq, ia_bool_int, ia_bool_bool, ia_bool_list, ia_bool_tuple, ia_bool_str, ia_bool_seq, ia_int_int, ia_int_bool, ia_int_list, ia_int_tuple, ia_int_str, ia_int_seq, ia_str_int, ia_str_bool, ia_str_list, ia_str_tuple, ia_str_str, ia_str_seq, ia_list_int, ia_list_bool, ia_list_list, ia_list_tuple, ia_list_str, ia_list_seq, ia_tuple_int, ia_tuple_bool, ia_tuple_list, ia_tuple_tuple, ia_tuple_str, ia_tuple_seq, mLst_ap, mTup_ap, mYes_ap, frz, frzAll, peek, res1, resAll, stoAll, argOf, argsOf, bors, wback, outAt, outsFrom, ownsStay, retv, wipeF, unwipe, sto, isNone, tyD, cY, cMul, cMod, cDiv, cPow, Cell.data, b2n, fMulL, Rf.intsFrom, compM, r1, sizeLine_v, boolsD]) ⟨_, _, rfl⟩
  obtain ⟨x1, x2, rfl⟩ := l2
  have st1 : mFor (iRan (mCons (m2 fAddX (mLit (.int 1)) (mB1 fMin2 (mCons (mLit (.int 3)) (mCons (mB1 fLen (mCons (mVar 0) mNil)) mNil)))) mNil)) (gSet 1) (mSeq (mSet 2 (mCall (D_box n) (mCons (mVar 0) (mCons (mVar 1) mNil)))) (mIf (mNotT (mB (mB1 fAll (mCons (mLc 4 (iRan (mCons (mLit (.int 1)) mNil)) (gSet 3) mYes (mCall (D_right n) (mCons (mVar 2) mNil)) [3]) mNil)))) (mRet (mLit (.bool false))) mNext)) [some (.dat (scr ns)), none, none, none] = some (.nx, [some (.dat (scr ns)), x1, x2, none]) := by
    rw [mFor_ap]
    have w1 : -4611686018427387904 ≤ 1 + k := by omega
    have w2 : 1 + k < 4611686018427387904 := by omega
    have e2 : scr ns = .list (ns.map .int) := rfl
    have e3 : iRan (mCons (m2 fAddX (mLit (.int 1)) (mB1 fMin2 (mCons (mLit (.int 3)) (mCons (mB1 fLen (mCons (mVar 0) mNil)) mNil)))) mNil) [some (.dat (scr ns)), none, none, none] = some (Rf.intsFrom 0 (1 + k).toNat, [some (.dat (scr ns)), none, none, none]) := by
      simp [mVar_ap, mLit_ap, m2_ap, mB_ap, mAndT_ap, mOrT_ap, mNotT_ap, mAndV_ap, mOrV_ap, mNotV_ap, mIfE_ap, mNil_ap, mCons_ap, mDisp_ap, gSet_ap, gsNil_ap, gsCons_ap, gTupD_ap, mSet_ap, mAsg_ap, mPar_ap, mExpr_ap, mRet_ap, mRetN_ap, mNext_ap, mBreak_ap, mCont_ap, mSeq_ap, mIf_ap, iSeq_ap, iRan_ap, iZp_ap, mFor_ap, mWhile_ap, mCall_ap, mkD_ap, mLc_ap, fI_ap, fAdd_ap, fSub_ap, fMul_ap, fMod_ap, fDiv_ap, fPow_ap, fLt_ap, fLe_ap, fGt_ap, fGe_ap, fIsN_ap, fNotN_ap, fIsB_ap, fIx_ap, fAddX_ap, fSubX_ap, fMulX_ap, m1_ap, fNeg_ap, mB1_ap, fLen_ap, fAbs_ap, fInt_ap, fMin2_ap, fMax2_ap, fList_ap, fTuple_ap, fStr_ap, mMt_ap, mMtZ_ap, fAppend_ap, fInsert_ap, fPopAt_ap, oNone_ap, oSome_ap, mSl_ap, gIx_ap, mIsi_ap, fEqX_ap, fNeX_ap, fAll_ap, fAny_ap, fSum_ap, fSorted_ap, fBest_ap, fIdx_ap, fRepr_ap, mPermA_ap, fBack_ap, gSplice_ap, mSortSet_ap, fMulY_ap, mTupRan_ap, fIsX_ap, ia_none_int, ia_none_bool, ia_none_list, ia_none_tuple, ia_none_str, ia_none_seq, ia_bool_int, ia_bool_bool, ia_bool_list, ia_bool_tuple, ia_bool_str, ia_bool_seq, ia_int_int, ia_int_bool, ia_int_list, ia_int_tuple, ia_int_str, ia_int_seq, ia_str_int, ia_str_bool, ia_str_list, ia_str_tuple, ia_str_str, ia_str_seq, ia_list_int, ia_list_bool, ia_list_list, ia_list_tuple, ia_list_str, ia_list_seq, ia_tuple_int, ia_tuple_bool, ia_tuple_list, ia_tuple_tuple, ia_tuple_str, ia_tuple_seq, mLst_ap, mTup_ap, mYes_ap, frz, frzAll, peek, res1, resAll, stoAll, argOf, argsOf, bors, wback, outAt, outsFrom, ownsStay, retv, wipeF, unwipe, sto, isNone, tyD, cY, cMul, cMod, cDiv, cPow, Cell.data, b2n, fMulL, e2, ← hk, w1, w2]
    rw [e3]
    exact l1
  have whole : blaw n [some (.dat (scr ns)), none, none, none] = some (.rt (.dat (.bool true)), [some (.dat (scr ns)), x1, x2, none]) := by
    unfold blaw
    rw [mSeq_nx st1]
    simp [mVar_ap, mLit_ap, m2_ap, mB_ap, mAndT_ap, mOrT_ap, mNotT_ap, mAndV_ap, mOrV_ap, mNotV_ap, mIfE_ap, mNil_ap, mCons_ap, mDisp_ap, gSet_ap, gsNil_ap, gsCons_ap, gTupD_ap, mSet_ap, mAsg_ap, mPar_ap, mExpr_ap, mRet_ap, mRetN_ap, mNext_ap, mBreak_ap, mCont_ap, mSeq_ap, mIf_ap, iSeq_ap, iRan_ap, iZp_ap, mFor_ap, mWhile_ap, mCall_ap, mkD_ap, mLc_ap, fI_ap, fAdd_ap, fSub_ap, fMul_ap, fMod_ap, fDiv_ap, fPow_ap, fLt_ap, fLe_ap, fGt_ap, fGe_ap, fIsN_ap, fNotN_ap, fIsB_ap, fIx_ap, fAddX_ap, fSubX_ap, fMulX_ap, m1_ap, fNeg_ap, mB1_ap, fLen_ap, fAbs_ap, fInt_ap, fMin2_ap, fMax2_ap, fList_ap, fTuple_ap, fStr_ap, mMt_ap, mMtZ_ap, fAppend_ap, fInsert_ap, fPopAt_ap, oNone_ap, oSome_ap, mSl_ap, gIx_ap, mIsi_ap, fEqX_ap, fNeX_ap, fAll_ap, fAny_ap, fSum_ap, fSorted_ap, fBest_ap, fIdx_ap, fRepr_ap, mPermA_ap, fBack_ap, gSplice_ap, mSortSet_ap, fMulY_ap, mTupRan_ap, fIsX_ap, ia_none_int, ia_none_bool, ia_none_list, ia_none_tuple, ia_none_str, ia_none_seq, ia_bool_int, ia_bool_bool, ia_bool_list, ia_bool_tuple, ia_bool_str, ia_bool_seq, ia_int_int, ia_int_bool, ia_int_list, ia_int_tuple, ia_int_str, ia_int_seq, ia_str_int, ia_str_bool, ia_str_list, ia_str_tuple, ia_str_str, ia_str_seq, ia_list_int, ia_list_bool, ia_list_list, ia_list_tuple, ia_list_str, ia_list_seq, ia_tuple_int, ia_tuple_bool, ia_tuple_list, ia_tuple_tuple, ia_tuple_str, ia_tuple_seq, mLst_ap, mTup_ap, mYes_ap, frz, frzAll, peek, res1, resAll, stoAll, argOf, argsOf, bors, wback, outAt, outsFrom, ownsStay, retv, wipeF, unwipe, sto, isNone, tyD, cY, cMul, cMod, cDiv, cPow, Cell.data, b2n, fMulL]
  refine ⟨[.dat (scr ns)], ?_⟩
  rw [mkD_ap]
  simp only [List.length_cons, List.length_nil, List.map_cons, List.map_nil, List.replicate, List.cons_append, List.nil_append, ↓reduceIte, Nat.reduceAdd, Nat.reduceSub, whole]
  simp [retv, outsFrom, outAt]
end Lk01

namespace Lk01
open PySem PySem.Spec PyProof.Rows L2 Rf
def dLaw : Dm := dm 40 dlaw (envD 40 defs bl 30) bl
/-! ### what the top has written -/
theorem df_mk {K : PySem.W.Frag} {h : Heap} {mg : Str → Option Value} (X : K.In h) (G : h.Ns mainGlobals mg) {d : DR} {f : Addr} {od an : Option Addr} {sl : Array (Option Value)} {oc kV dc pm cd ct : Value}
    (a : PySem.W.nsIn K mainGlobals d.name = some (some (.ref f))) (l : K.lookup f = some ⟨oc, od, .func (PySem.W.fnOf d.name d.name (defArgs d.st) (defBody d.st) (defScope d.st) .none kV dc pm an cd ct), sl⟩) (c : PySem.W.codeIn K cd d.name = true) (k : PySem.W.keepIn K (.ref f) = true)
    (hb : ∀ (kV doc pm : Value) (an : Option Addr) (cdv ct : Value) (us : List Value), us.length = d.ps.length → bindArgs (PySem.W.fnOf d.name d.name (defArgs d.st) (defBody d.st) (defScope d.st) .none kV doc pm an cdv ct) ⟨us, []⟩ = pure (d.ps.zip us))
    (hk : ∀ ks ∈ d.kws, ∀ (kV doc pm : Value) (an : Option Addr) (cdv ct : Value) (ws : List Value), ws.length = ks.length → bindArgs (PySem.W.fnOf d.name d.name (defArgs d.st) (defBody d.st) (defScope d.st) .none kV doc pm an cdv ct) ⟨[], ks.zip ws⟩ = pure (d.ps.zip (permL (kwPm d.ps ks) ws)))
    (sc : FnScope d.N d.ps (defScope d.st)) (ro : ∀ i ∈ d.ro, i < d.ps.length) : DfOk K mg d := by
  have F := fun_mk (st := d.st) l c k
  exact ⟨⟨f, _, PySem.W.mg_of X G a, F, F.binds hb, fun ks hks s ws _ hl => .of_eq (hk ks hks _ _ _ _ _ _ ws hl)⟩, sc, ro⟩
theorem sc_dis_number : FnScope dis_number.N dis_number.ps (defScope dis_number.st) := ⟨rfl, rfl, rfl, by decide +kernel, rfl, by decide +kernel, by decide +kernel⟩
theorem hb_dis_number (kV doc pm : Value) (an : Option Addr) (cdv ct : Value) (us : List Value) (hl : us.length = dis_number.ps.length) : bindArgs (PySem.W.fnOf dis_number.name dis_number.name (defArgs dis_number.st) (defBody dis_number.st) (defScope dis_number.st) .none kV doc pm an cdv ct) ⟨us, []⟩ = pure (dis_number.ps.zip us) := match us, hl with | [_], _ => rfl
theorem hk_dis_number : ∀ ks ∈ dis_number.kws, ∀ (kV doc pm : Value) (an : Option Addr) (cdv ct : Value) (ws : List Value), ws.length = ks.length → bindArgs (PySem.W.fnOf dis_number.name dis_number.name (defArgs dis_number.st) (defBody dis_number.st) (defScope dis_number.st) .none kV doc pm an cdv ct) ⟨[], ks.zip ws⟩ = pure (dis_number.ps.zip (permL (kwPm dis_number.ps ks) ws)) := fun _ h => nomatch h
theorem sc_dis_size : FnScope dis_size.N dis_size.ps (defScope dis_size.st) := ⟨rfl, rfl, rfl, by decide +kernel, rfl, by decide +kernel, by decide +kernel⟩
theorem hb_dis_size (kV doc pm : Value) (an : Option Addr) (cdv ct : Value) (us : List Value) (hl : us.length = dis_size.ps.length) : bindArgs (PySem.W.fnOf dis_size.name dis_size.name (defArgs dis_size.st) (defBody dis_size.st) (defScope dis_size.st) .none kV doc pm an cdv ct) ⟨us, []⟩ = pure (dis_size.ps.zip us) := match us, hl with | [_], _ => rfl
theorem hk_dis_size : ∀ ks ∈ dis_size.kws, ∀ (kV doc pm : Value) (an : Option Addr) (cdv ct : Value) (ws : List Value), ws.length = ks.length → bindArgs (PySem.W.fnOf dis_size.name dis_size.name (defArgs dis_size.st) (defBody dis_size.st) (defScope dis_size.st) .none kV doc pm an cdv ct) ⟨[], ks.zip ws⟩ = pure (dis_size.ps.zip (permL (kwPm dis_size.ps ks) ws)) := fun _ h => nomatch h
theorem sc_dis_pair : FnScope dis_pair.N dis_pair.ps (defScope dis_pair.st) := ⟨rfl, rfl, rfl, by decide +kernel, rfl, by decide +kernel, by decide +kernel⟩
theorem hb_dis_pair (kV doc pm : Value) (an : Option Addr) (cdv ct : Value) (us : List Value) (hl : us.length = dis_pair.ps.length) : bindArgs (PySem.W.fnOf dis_pair.name dis_pair.name (defArgs dis_pair.st) (defBody dis_pair.st) (defScope dis_pair.st) .none kV doc pm an cdv ct) ⟨us, []⟩ = pure (dis_pair.ps.zip us) := match us, hl with | [_], _ => rfl
theorem hk_dis_pair : ∀ ks ∈ dis_pair.kws, ∀ (kV doc pm : Value) (an : Option Addr) (cdv ct : Value) (ws : List Value), ws.length = ks.length → bindArgs (PySem.W.fnOf dis_pair.name dis_pair.name (defArgs dis_pair.st) (defBody dis_pair.st) (defScope dis_pair.st) .none kV doc pm an cdv ct) ⟨[], ks.zip ws⟩ = pure (dis_pair.ps.zip (permL (kwPm dis_pair.ps ks) ws)) := fun _ h => nomatch h
theorem sc_dis_range : FnScope dis_range.N dis_range.ps (defScope dis_range.st) := ⟨rfl, rfl, rfl, by decide +kernel, rfl, by decide +kernel, by decide +kernel⟩
theorem hb_dis_range (kV doc pm : Value) (an : Option Addr) (cdv ct : Value) (us : List Value) (hl : us.length = dis_range.ps.length) : bindArgs (PySem.W.fnOf dis_range.name dis_range.name (defArgs dis_range.st) (defBody dis_range.st) (defScope dis_range.st) .none kV doc pm an cdv ct) ⟨us, []⟩ = pure (dis_range.ps.zip us) := match us, hl with | [_], _ => rfl
theorem hk_dis_range : ∀ ks ∈ dis_range.kws, ∀ (kV doc pm : Value) (an : Option Addr) (cdv ct : Value) (ws : List Value), ws.length = ks.length → bindArgs (PySem.W.fnOf dis_range.name dis_range.name (defArgs dis_range.st) (defBody dis_range.st) (defScope dis_range.st) .none kV doc pm an cdv ct) ⟨[], ks.zip ws⟩ = pure (dis_range.ps.zip (permL (kwPm dis_range.ps ks) ws)) := fun _ h => nomatch h
theorem sc_dis_ascending : FnScope dis_ascending.N dis_ascending.ps (defScope dis_ascending.st) := ⟨rfl, rfl, rfl, by decide +kernel, rfl, by decide +kernel, by decide +kernel⟩
theorem hb_dis_ascending (kV doc pm : Value) (an : Option Addr) (cdv ct : Value) (us : List Value) (hl : us.length = dis_ascending.ps.length) : bindArgs (PySem.W.fnOf dis_ascending.name dis_ascending.name (defArgs dis_ascending.st) (defBody dis_ascending.st) (defScope dis_ascending.st) .none kV doc pm an cdv ct) ⟨us, []⟩ = pure (dis_ascending.ps.zip us) := match us, hl with | [_], _ => rfl
theorem hk_dis_ascending : ∀ ks ∈ dis_ascending.kws, ∀ (kV doc pm : Value) (an : Option Addr) (cdv ct : Value) (ws : List Value), ws.length = ks.length → bindArgs (PySem.W.fnOf dis_ascending.name dis_ascending.name (defArgs dis_ascending.st) (defBody dis_ascending.st) (defScope dis_ascending.st) .none kV doc pm an cdv ct) ⟨[], ks.zip ws⟩ = pure (dis_ascending.ps.zip (permL (kwPm dis_ascending.ps ks) ws)) := fun _ h => nomatch h
theorem sc_dare_sizes : FnScope dare_sizes.N dare_sizes.ps (defScope dare_sizes.st) := ⟨rfl, rfl, rfl, by decide +kernel, rfl, by decide +kernel, by decide +kernel⟩
theorem hb_dare_sizes (kV doc pm : Value) (an : Option Addr) (cdv ct : Value) (us : List Value) (hl : us.length = dare_sizes.ps.length) : bindArgs (PySem.W.fnOf dare_sizes.name dare_sizes.name (defArgs dare_sizes.st) (defBody dare_sizes.st) (defScope dare_sizes.st) .none kV doc pm an cdv ct) ⟨us, []⟩ = pure (dare_sizes.ps.zip us) := match us, hl with | [_], _ => rfl
theorem hk_dare_sizes : ∀ ks ∈ dare_sizes.kws, ∀ (kV doc pm : Value) (an : Option Addr) (cdv ct : Value) (ws : List Value), ws.length = ks.length → bindArgs (PySem.W.fnOf dare_sizes.name dare_sizes.name (defArgs dare_sizes.st) (defBody dare_sizes.st) (defScope dare_sizes.st) .none kV doc pm an cdv ct) ⟨[], ks.zip ws⟩ = pure (dare_sizes.ps.zip (permL (kwPm dare_sizes.ps ks) ws)) := fun _ h => nomatch h
theorem sc_dare_ranges : FnScope dare_ranges.N dare_ranges.ps (defScope dare_ranges.st) := ⟨rfl, rfl, rfl, by decide +kernel, rfl, by decide +kernel, by decide +kernel⟩
theorem hb_dare_ranges (kV doc pm : Value) (an : Option Addr) (cdv ct : Value) (us : List Value) (hl : us.length = dare_ranges.ps.length) : bindArgs (PySem.W.fnOf dare_ranges.name dare_ranges.name (defArgs dare_ranges.st) (defBody dare_ranges.st) (defScope dare_ranges.st) .none kV doc pm an cdv ct) ⟨us, []⟩ = pure (dare_ranges.ps.zip us) := match us, hl with | [_], _ => rfl
theorem hk_dare_ranges : ∀ ks ∈ dare_ranges.kws, ∀ (kV doc pm : Value) (an : Option Addr) (cdv ct : Value) (ws : List Value), ws.length = ks.length → bindArgs (PySem.W.fnOf dare_ranges.name dare_ranges.name (defArgs dare_ranges.st) (defBody dare_ranges.st) (defScope dare_ranges.st) .none kV doc pm an cdv ct) ⟨[], ks.zip ws⟩ = pure (dare_ranges.ps.zip (permL (kwPm dare_ranges.ps ks) ws)) := fun _ h => nomatch h
theorem sc_dis_shop : FnScope dis_shop.N dis_shop.ps (defScope dis_shop.st) := ⟨rfl, rfl, rfl, by decide +kernel, rfl, by decide +kernel, by decide +kernel⟩
theorem hb_dis_shop (kV doc pm : Value) (an : Option Addr) (cdv ct : Value) (us : List Value) (hl : us.length = dis_shop.ps.length) : bindArgs (PySem.W.fnOf dis_shop.name dis_shop.name (defArgs dis_shop.st) (defBody dis_shop.st) (defScope dis_shop.st) .none kV doc pm an cdv ct) ⟨us, []⟩ = pure (dis_shop.ps.zip us) := match us, hl with | [_], _ => rfl
theorem hk_dis_shop : ∀ ks ∈ dis_shop.kws, ∀ (kV doc pm : Value) (an : Option Addr) (cdv ct : Value) (ws : List Value), ws.length = ks.length → bindArgs (PySem.W.fnOf dis_shop.name dis_shop.name (defArgs dis_shop.st) (defBody dis_shop.st) (defScope dis_shop.st) .none kV doc pm an cdv ct) ⟨[], ks.zip ws⟩ = pure (dis_shop.ps.zip (permL (kwPm dis_shop.ps ks) ws)) := by
  intro ks h
  rcases List.mem_cons.mp h with rfl | h
  · exact fun kV doc pm an cdv ct ws hl => match ws, hl with | [_], _ => rfl
  cases h
theorem sc_d_box : FnScope d_box.N d_box.ps (defScope d_box.st) := ⟨rfl, rfl, rfl, by decide +kernel, rfl, by decide +kernel, by decide +kernel⟩
theorem hb_d_box (kV doc pm : Value) (an : Option Addr) (cdv ct : Value) (us : List Value) (hl : us.length = d_box.ps.length) : bindArgs (PySem.W.fnOf d_box.name d_box.name (defArgs d_box.st) (defBody d_box.st) (defScope d_box.st) .none kV doc pm an cdv ct) ⟨us, []⟩ = pure (d_box.ps.zip us) := match us, hl with | [_, _], _ => rfl
theorem hk_d_box : ∀ ks ∈ d_box.kws, ∀ (kV doc pm : Value) (an : Option Addr) (cdv ct : Value) (ws : List Value), ws.length = ks.length → bindArgs (PySem.W.fnOf d_box.name d_box.name (defArgs d_box.st) (defBody d_box.st) (defScope d_box.st) .none kV doc pm an cdv ct) ⟨[], ks.zip ws⟩ = pure (d_box.ps.zip (permL (kwPm d_box.ps ks) ws)) := fun _ h => nomatch h
theorem sc_d_take : FnScope d_take.N d_take.ps (defScope d_take.st) := ⟨rfl, rfl, rfl, by decide +kernel, rfl, by decide +kernel, by decide +kernel⟩
theorem hb_d_take (kV doc pm : Value) (an : Option Addr) (cdv ct : Value) (us : List Value) (hl : us.length = d_take.ps.length) : bindArgs (PySem.W.fnOf d_take.name d_take.name (defArgs d_take.st) (defBody d_take.st) (defScope d_take.st) .none kV doc pm an cdv ct) ⟨us, []⟩ = pure (d_take.ps.zip us) := match us, hl with | [_, _], _ => rfl
theorem hk_d_take : ∀ ks ∈ d_take.kws, ∀ (kV doc pm : Value) (an : Option Addr) (cdv ct : Value) (ws : List Value), ws.length = ks.length → bindArgs (PySem.W.fnOf d_take.name d_take.name (defArgs d_take.st) (defBody d_take.st) (defScope d_take.st) .none kV doc pm an cdv ct) ⟨[], ks.zip ws⟩ = pure (d_take.ps.zip (permL (kwPm d_take.ps ks) ws)) := fun _ h => nomatch h
theorem sc_d_pick : FnScope d_pick.N d_pick.ps (defScope d_pick.st) := ⟨rfl, rfl, rfl, by decide +kernel, rfl, by decide +kernel, by decide +kernel⟩
theorem hb_d_pick (kV doc pm : Value) (an : Option Addr) (cdv ct : Value) (us : List Value) (hl : us.length = d_pick.ps.length) : bindArgs (PySem.W.fnOf d_pick.name d_pick.name (defArgs d_pick.st) (defBody d_pick.st) (defScope d_pick.st) .none kV doc pm an cdv ct) ⟨us, []⟩ = pure (d_pick.ps.zip us) := match us, hl with | [_, _], _ => rfl
theorem hk_d_pick : ∀ ks ∈ d_pick.kws, ∀ (kV doc pm : Value) (an : Option Addr) (cdv ct : Value) (ws : List Value), ws.length = ks.length → bindArgs (PySem.W.fnOf d_pick.name d_pick.name (defArgs d_pick.st) (defBody d_pick.st) (defScope d_pick.st) .none kV doc pm an cdv ct) ⟨[], ks.zip ws⟩ = pure (d_pick.ps.zip (permL (kwPm d_pick.ps ks) ws)) := fun _ h => nomatch h
theorem sc_d_same : FnScope d_same.N d_same.ps (defScope d_same.st) := ⟨rfl, rfl, rfl, by decide +kernel, rfl, by decide +kernel, by decide +kernel⟩
theorem hb_d_same (kV doc pm : Value) (an : Option Addr) (cdv ct : Value) (us : List Value) (hl : us.length = d_same.ps.length) : bindArgs (PySem.W.fnOf d_same.name d_same.name (defArgs d_same.st) (defBody d_same.st) (defScope d_same.st) .none kV doc pm an cdv ct) ⟨us, []⟩ = pure (d_same.ps.zip us) := match us, hl with | [_, _], _ => rfl
theorem hk_d_same : ∀ ks ∈ d_same.kws, ∀ (kV doc pm : Value) (an : Option Addr) (cdv ct : Value) (ws : List Value), ws.length = ks.length → bindArgs (PySem.W.fnOf d_same.name d_same.name (defArgs d_same.st) (defBody d_same.st) (defScope d_same.st) .none kV doc pm an cdv ct) ⟨[], ks.zip ws⟩ = pure (d_same.ps.zip (permL (kwPm d_same.ps ks) ws)) := fun _ h => nomatch h
theorem sc_d_lists : FnScope d_lists.N d_lists.ps (defScope d_lists.st) := ⟨rfl, rfl, rfl, by decide +kernel, rfl, by decide +kernel, by decide +kernel⟩
theorem hb_d_lists (kV doc pm : Value) (an : Option Addr) (cdv ct : Value) (us : List Value) (hl : us.length = d_lists.ps.length) : bindArgs (PySem.W.fnOf d_lists.name d_lists.name (defArgs d_lists.st) (defBody d_lists.st) (defScope d_lists.st) .none kV doc pm an cdv ct) ⟨us, []⟩ = pure (d_lists.ps.zip us) := match us, hl with | [_], _ => rfl
theorem hk_d_lists : ∀ ks ∈ d_lists.kws, ∀ (kV doc pm : Value) (an : Option Addr) (cdv ct : Value) (ws : List Value), ws.length = ks.length → bindArgs (PySem.W.fnOf d_lists.name d_lists.name (defArgs d_lists.st) (defBody d_lists.st) (defScope d_lists.st) .none kV doc pm an cdv ct) ⟨[], ks.zip ws⟩ = pure (d_lists.ps.zip (permL (kwPm d_lists.ps ks) ws)) := fun _ h => nomatch h
theorem sc_d_shuffled : FnScope d_shuffled.N d_shuffled.ps (defScope d_shuffled.st) := ⟨rfl, rfl, rfl, by decide +kernel, rfl, by decide +kernel, by decide +kernel⟩
theorem hb_d_shuffled (kV doc pm : Value) (an : Option Addr) (cdv ct : Value) (us : List Value) (hl : us.length = d_shuffled.ps.length) : bindArgs (PySem.W.fnOf d_shuffled.name d_shuffled.name (defArgs d_shuffled.st) (defBody d_shuffled.st) (defScope d_shuffled.st) .none kV doc pm an cdv ct) ⟨us, []⟩ = pure (d_shuffled.ps.zip us) := match us, hl with | [_, _], _ => rfl
theorem hk_d_shuffled : ∀ ks ∈ d_shuffled.kws, ∀ (kV doc pm : Value) (an : Option Addr) (cdv ct : Value) (ws : List Value), ws.length = ks.length → bindArgs (PySem.W.fnOf d_shuffled.name d_shuffled.name (defArgs d_shuffled.st) (defBody d_shuffled.st) (defScope d_shuffled.st) .none kV doc pm an cdv ct) ⟨[], ks.zip ws⟩ = pure (d_shuffled.ps.zip (permL (kwPm d_shuffled.ps ks) ws)) := fun _ h => nomatch h
theorem sc_d_gauges : FnScope d_gauges.N d_gauges.ps (defScope d_gauges.st) := ⟨rfl, rfl, rfl, by decide +kernel, rfl, by decide +kernel, by decide +kernel⟩
theorem hb_d_gauges (kV doc pm : Value) (an : Option Addr) (cdv ct : Value) (us : List Value) (hl : us.length = d_gauges.ps.length) : bindArgs (PySem.W.fnOf d_gauges.name d_gauges.name (defArgs d_gauges.st) (defBody d_gauges.st) (defScope d_gauges.st) .none kV doc pm an cdv ct) ⟨us, []⟩ = pure (d_gauges.ps.zip us) := match us, hl with | [_, _], _ => rfl
theorem hk_d_gauges : ∀ ks ∈ d_gauges.kws, ∀ (kV doc pm : Value) (an : Option Addr) (cdv ct : Value) (ws : List Value), ws.length = ks.length → bindArgs (PySem.W.fnOf d_gauges.name d_gauges.name (defArgs d_gauges.st) (defBody d_gauges.st) (defScope d_gauges.st) .none kV doc pm an cdv ct) ⟨[], ks.zip ws⟩ = pure (d_gauges.ps.zip (permL (kwPm d_gauges.ps ks) ws)) := fun _ h => nomatch h
theorem sc_d_span : FnScope d_span.N d_span.ps (defScope d_span.st) := ⟨rfl, rfl, rfl, by decide +kernel, rfl, by decide +kernel, by decide +kernel⟩
theorem hb_d_span (kV doc pm : Value) (an : Option Addr) (cdv ct : Value) (us : List Value) (hl : us.length = d_span.ps.length) : bindArgs (PySem.W.fnOf d_span.name d_span.name (defArgs d_span.st) (defBody d_span.st) (defScope d_span.st) .none kV doc pm an cdv ct) ⟨us, []⟩ = pure (d_span.ps.zip us) := match us, hl with | [_, _, _], _ => rfl
theorem hk_d_span : ∀ ks ∈ d_span.kws, ∀ (kV doc pm : Value) (an : Option Addr) (cdv ct : Value) (ws : List Value), ws.length = ks.length → bindArgs (PySem.W.fnOf d_span.name d_span.name (defArgs d_span.st) (defBody d_span.st) (defScope d_span.st) .none kV doc pm an cdv ct) ⟨[], ks.zip ws⟩ = pure (d_span.ps.zip (permL (kwPm d_span.ps ks) ws)) := fun _ h => nomatch h
theorem sc_d_plant : FnScope d_plant.N d_plant.ps (defScope d_plant.st) := ⟨rfl, rfl, rfl, by decide +kernel, rfl, by decide +kernel, by decide +kernel⟩
theorem hb_d_plant (kV doc pm : Value) (an : Option Addr) (cdv ct : Value) (us : List Value) (hl : us.length = d_plant.ps.length) : bindArgs (PySem.W.fnOf d_plant.name d_plant.name (defArgs d_plant.st) (defBody d_plant.st) (defScope d_plant.st) .none kV doc pm an cdv ct) ⟨us, []⟩ = pure (d_plant.ps.zip us) := match us, hl with | [_, _, _], _ => rfl
theorem hk_d_plant : ∀ ks ∈ d_plant.kws, ∀ (kV doc pm : Value) (an : Option Addr) (cdv ct : Value) (ws : List Value), ws.length = ks.length → bindArgs (PySem.W.fnOf d_plant.name d_plant.name (defArgs d_plant.st) (defBody d_plant.st) (defScope d_plant.st) .none kV doc pm an cdv ct) ⟨[], ks.zip ws⟩ = pure (d_plant.ps.zip (permL (kwPm d_plant.ps ks) ws)) := fun _ h => nomatch h
theorem sc_d_odd : FnScope d_odd.N d_odd.ps (defScope d_odd.st) := ⟨rfl, rfl, rfl, by decide +kernel, rfl, by decide +kernel, by decide +kernel⟩
theorem hb_d_odd (kV doc pm : Value) (an : Option Addr) (cdv ct : Value) (us : List Value) (hl : us.length = d_odd.ps.length) : bindArgs (PySem.W.fnOf d_odd.name d_odd.name (defArgs d_odd.st) (defBody d_odd.st) (defScope d_odd.st) .none kV doc pm an cdv ct) ⟨us, []⟩ = pure (d_odd.ps.zip us) := match us, hl with | [_, _], _ => rfl
theorem hk_d_odd : ∀ ks ∈ d_odd.kws, ∀ (kV doc pm : Value) (an : Option Addr) (cdv ct : Value) (ws : List Value), ws.length = ks.length → bindArgs (PySem.W.fnOf d_odd.name d_odd.name (defArgs d_odd.st) (defBody d_odd.st) (defScope d_odd.st) .none kV doc pm an cdv ct) ⟨[], ks.zip ws⟩ = pure (d_odd.ps.zip (permL (kwPm d_odd.ps ks) ws)) := fun _ h => nomatch h
theorem sc_d_bent : FnScope d_bent.N d_bent.ps (defScope d_bent.st) := ⟨rfl, rfl, rfl, by decide +kernel, rfl, by decide +kernel, by decide +kernel⟩
theorem hb_d_bent (kV doc pm : Value) (an : Option Addr) (cdv ct : Value) (us : List Value) (hl : us.length = d_bent.ps.length) : bindArgs (PySem.W.fnOf d_bent.name d_bent.name (defArgs d_bent.st) (defBody d_bent.st) (defScope d_bent.st) .none kV doc pm an cdv ct) ⟨us, []⟩ = pure (d_bent.ps.zip us) := match us, hl with | [_, _], _ => rfl
theorem hk_d_bent : ∀ ks ∈ d_bent.kws, ∀ (kV doc pm : Value) (an : Option Addr) (cdv ct : Value) (ws : List Value), ws.length = ks.length → bindArgs (PySem.W.fnOf d_bent.name d_bent.name (defArgs d_bent.st) (defBody d_bent.st) (defScope d_bent.st) .none kV doc pm an cdv ct) ⟨[], ks.zip ws⟩ = pure (d_bent.ps.zip (permL (kwPm d_bent.ps ks) ws)) := fun _ h => nomatch h
theorem sc_d_integer : FnScope d_integer.N d_integer.ps (defScope d_integer.st) := ⟨rfl, rfl, rfl, by decide +kernel, rfl, by decide +kernel, by decide +kernel⟩
theorem hb_d_integer (kV doc pm : Value) (an : Option Addr) (cdv ct : Value) (us : List Value) (hl : us.length = d_integer.ps.length) : bindArgs (PySem.W.fnOf d_integer.name d_integer.name (defArgs d_integer.st) (defBody d_integer.st) (defScope d_integer.st) .none kV doc pm an cdv ct) ⟨us, []⟩ = pure (d_integer.ps.zip us) := match us, hl with | [_], _ => rfl
theorem hk_d_integer : ∀ ks ∈ d_integer.kws, ∀ (kV doc pm : Value) (an : Option Addr) (cdv ct : Value) (ws : List Value), ws.length = ks.length → bindArgs (PySem.W.fnOf d_integer.name d_integer.name (defArgs d_integer.st) (defBody d_integer.st) (defScope d_integer.st) .none kV doc pm an cdv ct) ⟨[], ks.zip ws⟩ = pure (d_integer.ps.zip (permL (kwPm d_integer.ps ks) ws)) := fun _ h => nomatch h
theorem sc_d_sizes_only : FnScope d_sizes_only.N d_sizes_only.ps (defScope d_sizes_only.st) := ⟨rfl, rfl, rfl, by decide +kernel, rfl, by decide +kernel, by decide +kernel⟩
theorem hb_d_sizes_only (kV doc pm : Value) (an : Option Addr) (cdv ct : Value) (us : List Value) (hl : us.length = d_sizes_only.ps.length) : bindArgs (PySem.W.fnOf d_sizes_only.name d_sizes_only.name (defArgs d_sizes_only.st) (defBody d_sizes_only.st) (defScope d_sizes_only.st) .none kV doc pm an cdv ct) ⟨us, []⟩ = pure (d_sizes_only.ps.zip us) := match us, hl with | [_], _ => rfl
theorem hk_d_sizes_only : ∀ ks ∈ d_sizes_only.kws, ∀ (kV doc pm : Value) (an : Option Addr) (cdv ct : Value) (ws : List Value), ws.length = ks.length → bindArgs (PySem.W.fnOf d_sizes_only.name d_sizes_only.name (defArgs d_sizes_only.st) (defBody d_sizes_only.st) (defScope d_sizes_only.st) .none kV doc pm an cdv ct) ⟨[], ks.zip ws⟩ = pure (d_sizes_only.ps.zip (permL (kwPm d_sizes_only.ps ks) ws)) := fun _ h => nomatch h
theorem sc_d_is_plant : FnScope d_is_plant.N d_is_plant.ps (defScope d_is_plant.st) := ⟨rfl, rfl, rfl, by decide +kernel, rfl, by decide +kernel, by decide +kernel⟩
theorem hb_d_is_plant (kV doc pm : Value) (an : Option Addr) (cdv ct : Value) (us : List Value) (hl : us.length = d_is_plant.ps.length) : bindArgs (PySem.W.fnOf d_is_plant.name d_is_plant.name (defArgs d_is_plant.st) (defBody d_is_plant.st) (defScope d_is_plant.st) .none kV doc pm an cdv ct) ⟨us, []⟩ = pure (d_is_plant.ps.zip us) := match us, hl with | [_], _ => rfl
theorem hk_d_is_plant : ∀ ks ∈ d_is_plant.kws, ∀ (kV doc pm : Value) (an : Option Addr) (cdv ct : Value) (ws : List Value), ws.length = ks.length → bindArgs (PySem.W.fnOf d_is_plant.name d_is_plant.name (defArgs d_is_plant.st) (defBody d_is_plant.st) (defScope d_is_plant.st) .none kV doc pm an cdv ct) ⟨[], ks.zip ws⟩ = pure (d_is_plant.ps.zip (permL (kwPm d_is_plant.ps ks) ws)) := fun _ h => nomatch h
theorem sc_d_right : FnScope d_right.N d_right.ps (defScope d_right.st) := ⟨rfl, rfl, rfl, by decide +kernel, rfl, by decide +kernel, by decide +kernel⟩
theorem hb_d_right (kV doc pm : Value) (an : Option Addr) (cdv ct : Value) (us : List Value) (hl : us.length = d_right.ps.length) : bindArgs (PySem.W.fnOf d_right.name d_right.name (defArgs d_right.st) (defBody d_right.st) (defScope d_right.st) .none kV doc pm an cdv ct) ⟨us, []⟩ = pure (d_right.ps.zip us) := match us, hl with | [_], _ => rfl
theorem hk_d_right : ∀ ks ∈ d_right.kws, ∀ (kV doc pm : Value) (an : Option Addr) (cdv ct : Value) (ws : List Value), ws.length = ks.length → bindArgs (PySem.W.fnOf d_right.name d_right.name (defArgs d_right.st) (defBody d_right.st) (defScope d_right.st) .none kV doc pm an cdv ct) ⟨[], ks.zip ws⟩ = pure (d_right.ps.zip (permL (kwPm d_right.ps ks) ws)) := fun _ h => nomatch h
theorem sc_dlaw : FnScope dlaw.N dlaw.ps (defScope dlaw.st) := ⟨rfl, rfl, rfl, by decide +kernel, rfl, by decide +kernel, by decide +kernel⟩
theorem hb_dlaw (kV doc pm : Value) (an : Option Addr) (cdv ct : Value) (us : List Value) (hl : us.length = dlaw.ps.length) : bindArgs (PySem.W.fnOf dlaw.name dlaw.name (defArgs dlaw.st) (defBody dlaw.st) (defScope dlaw.st) .none kV doc pm an cdv ct) ⟨us, []⟩ = pure (dlaw.ps.zip us) := match us, hl with | [_], _ => rfl
theorem hk_dlaw : ∀ ks ∈ dlaw.kws, ∀ (kV doc pm : Value) (an : Option Addr) (cdv ct : Value) (ws : List Value), ws.length = ks.length → bindArgs (PySem.W.fnOf dlaw.name dlaw.name (defArgs dlaw.st) (defBody dlaw.st) (defScope dlaw.st) .none kV doc pm an cdv ct) ⟨[], ks.zip ws⟩ = pure (dlaw.ps.zip (permL (kwPm dlaw.ps ks) ws)) := fun _ h => nomatch h
theorem all_mk {l : PySem.W.OpenLaw} {w : World} {K : PySem.W.Frag} {h : Heap} {mg : Str → Option Value} {fa f0 f1 f2 f3 f4 f5 f6 f7 f8 f9 f10 f11 f12 f13 f14 f15 f16 f17 f18 f19 f20 f21 f22 f23 : Addr} (X : K.In h) (G : h.Ns mainGlobals mg) (hfa : mg "law" = some (.ref fa)) {od0 an0 od1 an1 od2 an2 od3 an3 od4 an4 od5 an5 od6 an6 od7 an7 od8 an8 od9 an9 od10 an10 od11 an11 od12 an12 od13 an13 od14 an14 od15 an15 od16 an16 od17 an17 od18 an18 od19 an19 od20 an20 od21 an21 od22 an22 od23 an23 : Option Addr} {sl0 sl1 sl2 sl3 sl4 sl5 sl6 sl7 sl8 sl9 sl10 sl11 sl12 sl13 sl14 sl15 sl16 sl17 sl18 sl19 sl20 sl21 sl22 sl23 : Array (Option Value)} {oc0 kV0 dc0 pm0 cd0 ct0 oc1 kV1 dc1 pm1 cd1 ct1 oc2 kV2 dc2 pm2 cd2 ct2 oc3 kV3 dc3 pm3 cd3 ct3 oc4 kV4 dc4 pm4 cd4 ct4 oc5 kV5 dc5 pm5 cd5 ct5 oc6 kV6 dc6 pm6 cd6 ct6 oc7 kV7 dc7 pm7 cd7 ct7 oc8 kV8 dc8 pm8 cd8 ct8 oc9 kV9 dc9 pm9 cd9 ct9 oc10 kV10 dc10 pm10 cd10 ct10 oc11 kV11 dc11 pm11 cd11 ct11 oc12 kV12 dc12 pm12 cd12 ct12 oc13 kV13 dc13 pm13 cd13 ct13 oc14 kV14 dc14 pm14 cd14 ct14 oc15 kV15 dc15 pm15 cd15 ct15 oc16 kV16 dc16 pm16 cd16 ct16 oc17 kV17 dc17 pm17 cd17 ct17 oc18 kV18 dc18 pm18 cd18 ct18 oc19 kV19 dc19 pm19 cd19 ct19 oc20 kV20 dc20 pm20 cd20 ct20 oc21 kV21 dc21 pm21 cd21 ct21 oc22 kV22 dc22 pm22 cd22 ct22 oc23 kV23 dc23 pm23 cd23 ct23 : Value}
    (a0 : PySem.W.nsIn K mainGlobals dis_number.name = some (some (.ref f0))) (l0 : K.lookup f0 = some ⟨oc0, od0, .func (PySem.W.fnOf dis_number.name dis_number.name (defArgs dis_number.st) (defBody dis_number.st) (defScope dis_number.st) .none kV0 dc0 pm0 an0 cd0 ct0), sl0⟩) (c0 : PySem.W.codeIn K cd0 dis_number.name = true) (k0 : PySem.W.keepIn K (.ref f0) = true)
    (a1 : PySem.W.nsIn K mainGlobals dis_size.name = some (some (.ref f1))) (l1 : K.lookup f1 = some ⟨oc1, od1, .func (PySem.W.fnOf dis_size.name dis_size.name (defArgs dis_size.st) (defBody dis_size.st) (defScope dis_size.st) .none kV1 dc1 pm1 an1 cd1 ct1), sl1⟩) (c1 : PySem.W.codeIn K cd1 dis_size.name = true) (k1 : PySem.W.keepIn K (.ref f1) = true)
    (a2 : PySem.W.nsIn K mainGlobals dis_pair.name = some (some (.ref f2))) (l2 : K.lookup f2 = some ⟨oc2, od2, .func (PySem.W.fnOf dis_pair.name dis_pair.name (defArgs dis_pair.st) (defBody dis_pair.st) (defScope dis_pair.st) .none kV2 dc2 pm2 an2 cd2 ct2), sl2⟩) (c2 : PySem.W.codeIn K cd2 dis_pair.name = true) (k2 : PySem.W.keepIn K (.ref f2) = true)
    (a3 : PySem.W.nsIn K mainGlobals dis_range.name = some (some (.ref f3))) (l3 : K.lookup f3 = some ⟨oc3, od3, .func (PySem.W.fnOf dis_range.name dis_range.name (defArgs dis_range.st) (defBody dis_range.st) (defScope dis_range.st) .none kV3 dc3 pm3 an3 cd3 ct3), sl3⟩) (c3 : PySem.W.codeIn K cd3 dis_range.name = true) (k3 : PySem.W.keepIn K (.ref f3) = true)
    (a4 : PySem.W.nsIn K mainGlobals dis_ascending.name = some (some (.ref f4))) (l4 : K.lookup f4 = some ⟨oc4, od4, .func (PySem.W.fnOf dis_ascending.name dis_ascending.name (defArgs dis_ascending.st) (defBody dis_ascending.st) (defScope dis_ascending.st) .none kV4 dc4 pm4 an4 cd4 ct4), sl4⟩) (c4 : PySem.W.codeIn K cd4 dis_ascending.name = true) (k4 : PySem.W.keepIn K (.ref f4) = true)
    (a5 : PySem.W.nsIn K mainGlobals dare_sizes.name = some (some (.ref f5))) (l5 : K.lookup f5 = some ⟨oc5, od5, .func (PySem.W.fnOf dare_sizes.name dare_sizes.name (defArgs dare_sizes.st) (defBody dare_sizes.st) (defScope dare_sizes.st) .none kV5 dc5 pm5 an5 cd5 ct5), sl5⟩) (c5 : PySem.W.codeIn K cd5 dare_sizes.name = true) (k5 : PySem.W.keepIn K (.ref f5) = true)
    (a6 : PySem.W.nsIn K mainGlobals dare_ranges.name = some (some (.ref f6))) (l6 : K.lookup f6 = some ⟨oc6, od6, .func (PySem.W.fnOf dare_ranges.name dare_ranges.name (defArgs dare_ranges.st) (defBody dare_ranges.st) (defScope dare_ranges.st) .none kV6 dc6 pm6 an6 cd6 ct6), sl6⟩) (c6 : PySem.W.codeIn K cd6 dare_ranges.name = true) (k6 : PySem.W.keepIn K (.ref f6) = true)
    (a7 : PySem.W.nsIn K mainGlobals dis_shop.name = some (some (.ref f7))) (l7 : K.lookup f7 = some ⟨oc7, od7, .func (PySem.W.fnOf dis_shop.name dis_shop.name (defArgs dis_shop.st) (defBody dis_shop.st) (defScope dis_shop.st) .none kV7 dc7 pm7 an7 cd7 ct7), sl7⟩) (c7 : PySem.W.codeIn K cd7 dis_shop.name = true) (k7 : PySem.W.keepIn K (.ref f7) = true)
    (a8 : PySem.W.nsIn K mainGlobals d_box.name = some (some (.ref f8))) (l8 : K.lookup f8 = some ⟨oc8, od8, .func (PySem.W.fnOf d_box.name d_box.name (defArgs d_box.st) (defBody d_box.st) (defScope d_box.st) .none kV8 dc8 pm8 an8 cd8 ct8), sl8⟩) (c8 : PySem.W.codeIn K cd8 d_box.name = true) (k8 : PySem.W.keepIn K (.ref f8) = true)
    (a9 : PySem.W.nsIn K mainGlobals d_take.name = some (some (.ref f9))) (l9 : K.lookup f9 = some ⟨oc9, od9, .func (PySem.W.fnOf d_take.name d_take.name (defArgs d_take.st) (defBody d_take.st) (defScope d_take.st) .none kV9 dc9 pm9 an9 cd9 ct9), sl9⟩) (c9 : PySem.W.codeIn K cd9 d_take.name = true) (k9 : PySem.W.keepIn K (.ref f9) = true)
    (a10 : PySem.W.nsIn K mainGlobals d_pick.name = some (some (.ref f10))) (l10 : K.lookup f10 = some ⟨oc10, od10, .func (PySem.W.fnOf d_pick.name d_pick.name (defArgs d_pick.st) (defBody d_pick.st) (defScope d_pick.st) .none kV10 dc10 pm10 an10 cd10 ct10), sl10⟩) (c10 : PySem.W.codeIn K cd10 d_pick.name = true) (k10 : PySem.W.keepIn K (.ref f10) = true)
    (a11 : PySem.W.nsIn K mainGlobals d_same.name = some (some (.ref f11))) (l11 : K.lookup f11 = some ⟨oc11, od11, .func (PySem.W.fnOf d_same.name d_same.name (defArgs d_same.st) (defBody d_same.st) (defScope d_same.st) .none kV11 dc11 pm11 an11 cd11 ct11), sl11⟩) (c11 : PySem.W.codeIn K cd11 d_same.name = true) (k11 : PySem.W.keepIn K (.ref f11) = true)
    (a12 : PySem.W.nsIn K mainGlobals d_lists.name = some (some (.ref f12))) (l12 : K.lookup f12 = some ⟨oc12, od12, .func (PySem.W.fnOf d_lists.name d_lists.name (defArgs d_lists.st) (defBody d_lists.st) (defScope d_lists.st) .none kV12 dc12 pm12 an12 cd12 ct12), sl12⟩) (c12 : PySem.W.codeIn K cd12 d_lists.name = true) (k12 : PySem.W.keepIn K (.ref f12) = true)
    (a13 : PySem.W.nsIn K mainGlobals d_shuffled.name = some (some (.ref f13))) (l13 : K.lookup f13 = some ⟨oc13, od13, .func (PySem.W.fnOf d_shuffled.name d_shuffled.name (defArgs d_shuffled.st) (defBody d_shuffled.st) (defScope d_shuffled.st) .none kV13 dc13 pm13 an13 cd13 ct13), sl13⟩) (c13 : PySem.W.codeIn K cd13 d_shuffled.name = true) (k13 : PySem.W.keepIn K (.ref f13) = true)
    (a14 : PySem.W.nsIn K mainGlobals d_gauges.name = some (some (.ref f14))) (l14 : K.lookup f14 = some ⟨oc14, od14, .func (PySem.W.fnOf d_gauges.name d_gauges.name (defArgs d_gauges.st) (defBody d_gauges.st) (defScope d_gauges.st) .none kV14 dc14 pm14 an14 cd14 ct14), sl14⟩) (c14 : PySem.W.codeIn K cd14 d_gauges.name = true) (k14 : PySem.W.keepIn K (.ref f14) = true)
    (a15 : PySem.W.nsIn K mainGlobals d_span.name = some (some (.ref f15))) (l15 : K.lookup f15 = some ⟨oc15, od15, .func (PySem.W.fnOf d_span.name d_span.name (defArgs d_span.st) (defBody d_span.st) (defScope d_span.st) .none kV15 dc15 pm15 an15 cd15 ct15), sl15⟩) (c15 : PySem.W.codeIn K cd15 d_span.name = true) (k15 : PySem.W.keepIn K (.ref f15) = true)
    (a16 : PySem.W.nsIn K mainGlobals d_plant.name = some (some (.ref f16))) (l16 : K.lookup f16 = some ⟨oc16, od16, .func (PySem.W.fnOf d_plant.name d_plant.name (defArgs d_plant.st) (defBody d_plant.st) (defScope d_plant.st) .none kV16 dc16 pm16 an16 cd16 ct16), sl16⟩) (c16 : PySem.W.codeIn K cd16 d_plant.name = true) (k16 : PySem.W.keepIn K (.ref f16) = true)
    (a17 : PySem.W.nsIn K mainGlobals d_odd.name = some (some (.ref f17))) (l17 : K.lookup f17 = some ⟨oc17, od17, .func (PySem.W.fnOf d_odd.name d_odd.name (defArgs d_odd.st) (defBody d_odd.st) (defScope d_odd.st) .none kV17 dc17 pm17 an17 cd17 ct17), sl17⟩) (c17 : PySem.W.codeIn K cd17 d_odd.name = true) (k17 : PySem.W.keepIn K (.ref f17) = true)
    (a18 : PySem.W.nsIn K mainGlobals d_bent.name = some (some (.ref f18))) (l18 : K.lookup f18 = some ⟨oc18, od18, .func (PySem.W.fnOf d_bent.name d_bent.name (defArgs d_bent.st) (defBody d_bent.st) (defScope d_bent.st) .none kV18 dc18 pm18 an18 cd18 ct18), sl18⟩) (c18 : PySem.W.codeIn K cd18 d_bent.name = true) (k18 : PySem.W.keepIn K (.ref f18) = true)
    (a19 : PySem.W.nsIn K mainGlobals d_integer.name = some (some (.ref f19))) (l19 : K.lookup f19 = some ⟨oc19, od19, .func (PySem.W.fnOf d_integer.name d_integer.name (defArgs d_integer.st) (defBody d_integer.st) (defScope d_integer.st) .none kV19 dc19 pm19 an19 cd19 ct19), sl19⟩) (c19 : PySem.W.codeIn K cd19 d_integer.name = true) (k19 : PySem.W.keepIn K (.ref f19) = true)
    (a20 : PySem.W.nsIn K mainGlobals d_sizes_only.name = some (some (.ref f20))) (l20 : K.lookup f20 = some ⟨oc20, od20, .func (PySem.W.fnOf d_sizes_only.name d_sizes_only.name (defArgs d_sizes_only.st) (defBody d_sizes_only.st) (defScope d_sizes_only.st) .none kV20 dc20 pm20 an20 cd20 ct20), sl20⟩) (c20 : PySem.W.codeIn K cd20 d_sizes_only.name = true) (k20 : PySem.W.keepIn K (.ref f20) = true)
    (a21 : PySem.W.nsIn K mainGlobals d_is_plant.name = some (some (.ref f21))) (l21 : K.lookup f21 = some ⟨oc21, od21, .func (PySem.W.fnOf d_is_plant.name d_is_plant.name (defArgs d_is_plant.st) (defBody d_is_plant.st) (defScope d_is_plant.st) .none kV21 dc21 pm21 an21 cd21 ct21), sl21⟩) (c21 : PySem.W.codeIn K cd21 d_is_plant.name = true) (k21 : PySem.W.keepIn K (.ref f21) = true)
    (a22 : PySem.W.nsIn K mainGlobals d_right.name = some (some (.ref f22))) (l22 : K.lookup f22 = some ⟨oc22, od22, .func (PySem.W.fnOf d_right.name d_right.name (defArgs d_right.st) (defBody d_right.st) (defScope d_right.st) .none kV22 dc22 pm22 an22 cd22 ct22), sl22⟩) (c22 : PySem.W.codeIn K cd22 d_right.name = true) (k22 : PySem.W.keepIn K (.ref f22) = true)
    (a23 : PySem.W.nsIn K mainGlobals dlaw.name = some (some (.ref f23))) (l23 : K.lookup f23 = some ⟨oc23, od23, .func (PySem.W.fnOf dlaw.name dlaw.name (defArgs dlaw.st) (defBody dlaw.st) (defScope dlaw.st) .none kV23 dc23 pm23 an23 cd23 ct23), sl23⟩) (c23 : PySem.W.codeIn K cd23 dlaw.name = true) (k23 : PySem.W.keepIn K (.ref f23) = true)
    (z0 : PySem.W.nsIn K mainGlobals "abs" = some none) (z1 : PySem.W.nsIn K mainGlobals "all" = some none) (z2 : PySem.W.nsIn K mainGlobals "bool" = some none) (z3 : PySem.W.nsIn K mainGlobals "int" = some none) (z4 : PySem.W.nsIn K mainGlobals "isinstance" = some none) (z5 : PySem.W.nsIn K mainGlobals "len" = some none) (z6 : PySem.W.nsIn K mainGlobals "list" = some none) (z7 : PySem.W.nsIn K mainGlobals "min" = some none) (z8 : PySem.W.nsIn K mainGlobals "range" = some none) (z9 : PySem.W.nsIn K mainGlobals "repr" = some none) (z10 : PySem.W.nsIn K mainGlobals "set" = some none) (z11 : PySem.W.nsIn K mainGlobals "sorted" = some none) (z12 : PySem.W.nsIn K mainGlobals "str" = some none) (z13 : PySem.W.nsIn K mainGlobals "tuple" = some none) (z14 : PySem.W.nsIn K mainGlobals "zip" = some none) :
    ∃ fd : FuncData, (∀ (s : Shared) (v : Value), BindsTo s fd ⟨[v], []⟩ [("_law_script", v)]) ∧ ∀ base : Heap, K.In base → base.Ns mainGlobals mg → FnG l.prog w K mg base 31 fa fd ["_law_script"] (spM K dLaw) := by
  have D0 := df_mk (d := dis_number) X G a0 l0 c0 k0 hb_dis_number hk_dis_number sc_dis_number (by decide)
  have D1 := df_mk (d := dis_size) X G a1 l1 c1 k1 hb_dis_size hk_dis_size sc_dis_size (by decide)
  have D2 := df_mk (d := dis_pair) X G a2 l2 c2 k2 hb_dis_pair hk_dis_pair sc_dis_pair (by decide)
  have D3 := df_mk (d := dis_range) X G a3 l3 c3 k3 hb_dis_range hk_dis_range sc_dis_range (by decide)
  have D4 := df_mk (d := dis_ascending) X G a4 l4 c4 k4 hb_dis_ascending hk_dis_ascending sc_dis_ascending (by decide)
  have D5 := df_mk (d := dare_sizes) X G a5 l5 c5 k5 hb_dare_sizes hk_dare_sizes sc_dare_sizes (by decide)
  have D6 := df_mk (d := dare_ranges) X G a6 l6 c6 k6 hb_dare_ranges hk_dare_ranges sc_dare_ranges (by decide)
  have D7 := df_mk (d := dis_shop) X G a7 l7 c7 k7 hb_dis_shop hk_dis_shop sc_dis_shop (by decide)
  have D8 := df_mk (d := d_box) X G a8 l8 c8 k8 hb_d_box hk_d_box sc_d_box (by decide)
  have D9 := df_mk (d := d_take) X G a9 l9 c9 k9 hb_d_take hk_d_take sc_d_take (by decide)
  have D10 := df_mk (d := d_pick) X G a10 l10 c10 k10 hb_d_pick hk_d_pick sc_d_pick (by decide)
  have D11 := df_mk (d := d_same) X G a11 l11 c11 k11 hb_d_same hk_d_same sc_d_same (by decide)
  have D12 := df_mk (d := d_lists) X G a12 l12 c12 k12 hb_d_lists hk_d_lists sc_d_lists (by decide)
  have D13 := df_mk (d := d_shuffled) X G a13 l13 c13 k13 hb_d_shuffled hk_d_shuffled sc_d_shuffled (by decide)
  have D14 := df_mk (d := d_gauges) X G a14 l14 c14 k14 hb_d_gauges hk_d_gauges sc_d_gauges (by decide)
  have D15 := df_mk (d := d_span) X G a15 l15 c15 k15 hb_d_span hk_d_span sc_d_span (by decide)
  have D16 := df_mk (d := d_plant) X G a16 l16 c16 k16 hb_d_plant hk_d_plant sc_d_plant (by decide)
  have D17 := df_mk (d := d_odd) X G a17 l17 c17 k17 hb_d_odd hk_d_odd sc_d_odd (by decide)
  have D18 := df_mk (d := d_bent) X G a18 l18 c18 k18 hb_d_bent hk_d_bent sc_d_bent (by decide)
  have D19 := df_mk (d := d_integer) X G a19 l19 c19 k19 hb_d_integer hk_d_integer sc_d_integer (by decide)
  have D20 := df_mk (d := d_sizes_only) X G a20 l20 c20 k20 hb_d_sizes_only hk_d_sizes_only sc_d_sizes_only (by decide)
  have D21 := df_mk (d := d_is_plant) X G a21 l21 c21 k21 hb_d_is_plant hk_d_is_plant sc_d_is_plant (by decide)
  have D22 := df_mk (d := d_right) X G a22 l22 c22 k22 hb_d_right hk_d_right sc_d_right (by decide)
  have D23 := df_mk (d := dlaw) X G a23 l23 c23 k23 hb_dlaw hk_dlaw sc_dlaw (by decide)
  have hd : ∀ d ∈ defs, DfOk K mg d := by
    unfold defs
    refine List.forall_mem_cons.mpr ⟨D0, ?_⟩
    refine List.forall_mem_cons.mpr ⟨D1, ?_⟩
    refine List.forall_mem_cons.mpr ⟨D2, ?_⟩
    refine List.forall_mem_cons.mpr ⟨D3, ?_⟩
    refine List.forall_mem_cons.mpr ⟨D4, ?_⟩
    refine List.forall_mem_cons.mpr ⟨D5, ?_⟩
    refine List.forall_mem_cons.mpr ⟨D6, ?_⟩
    refine List.forall_mem_cons.mpr ⟨D7, ?_⟩
    refine List.forall_mem_cons.mpr ⟨D8, ?_⟩
    refine List.forall_mem_cons.mpr ⟨D9, ?_⟩
    refine List.forall_mem_cons.mpr ⟨D10, ?_⟩
    refine List.forall_mem_cons.mpr ⟨D11, ?_⟩
    refine List.forall_mem_cons.mpr ⟨D12, ?_⟩
    refine List.forall_mem_cons.mpr ⟨D13, ?_⟩
    refine List.forall_mem_cons.mpr ⟨D14, ?_⟩
    refine List.forall_mem_cons.mpr ⟨D15, ?_⟩
    refine List.forall_mem_cons.mpr ⟨D16, ?_⟩
    refine List.forall_mem_cons.mpr ⟨D17, ?_⟩
    refine List.forall_mem_cons.mpr ⟨D18, ?_⟩
    refine List.forall_mem_cons.mpr ⟨D19, ?_⟩
    refine List.forall_mem_cons.mpr ⟨D20, ?_⟩
    refine List.forall_mem_cons.mpr ⟨D21, ?_⟩
    refine List.forall_mem_cons.mpr ⟨D22, ?_⟩
    refine List.forall_mem_cons.mpr ⟨D23, ?_⟩
    exact fun _ h => nomatch h
  have hz : ∀ x ∈ blts, mg x = none := by
    unfold blts
    refine List.forall_mem_cons.mpr ⟨PySem.W.mg_none_of X G z0, ?_⟩
    refine List.forall_mem_cons.mpr ⟨PySem.W.mg_none_of X G z1, ?_⟩
    refine List.forall_mem_cons.mpr ⟨PySem.W.mg_none_of X G z2, ?_⟩
    refine List.forall_mem_cons.mpr ⟨PySem.W.mg_none_of X G z3, ?_⟩
    refine List.forall_mem_cons.mpr ⟨PySem.W.mg_none_of X G z4, ?_⟩
    refine List.forall_mem_cons.mpr ⟨PySem.W.mg_none_of X G z5, ?_⟩
    refine List.forall_mem_cons.mpr ⟨PySem.W.mg_none_of X G z6, ?_⟩
    refine List.forall_mem_cons.mpr ⟨PySem.W.mg_none_of X G z7, ?_⟩
    refine List.forall_mem_cons.mpr ⟨PySem.W.mg_none_of X G z8, ?_⟩
    refine List.forall_mem_cons.mpr ⟨PySem.W.mg_none_of X G z9, ?_⟩
    refine List.forall_mem_cons.mpr ⟨PySem.W.mg_none_of X G z10, ?_⟩
    refine List.forall_mem_cons.mpr ⟨PySem.W.mg_none_of X G z11, ?_⟩
    refine List.forall_mem_cons.mpr ⟨PySem.W.mg_none_of X G z12, ?_⟩
    refine List.forall_mem_cons.mpr ⟨PySem.W.mg_none_of X G z13, ?_⟩
    refine List.forall_mem_cons.mpr ⟨PySem.W.mg_none_of X G z14, ?_⟩
    exact fun _ h => nomatch h
  have hb : ∀ x, bl x = true → mg x = none := fun x h => hz x (by simpa [bl, List.contains_iff_mem] using h)
  have e := hfa.symm.trans (PySem.W.mg_of X G a23)
  cases e
  have F := fun_mk (st := dlaw.st) l23 c23 k23
  exact ⟨_, fun s v => .of_eq rfl, fun base _ _ => envD_ok (lvl := 40) hd hb 30 dlaw (by simp [defs]) _ _ (PySem.W.mg_of X G a23) F⟩
theorem law_true (ns : List Int) (h : ns.length ≤ 63) : ∃ outs, dLaw [.dat (scr ns)] = some (.dat (.bool true), outs) := lawAt (n := 30) (by decide) ns h
end Lk01
open PySem PySem.W PyProof.Rows
set_option maxHeartbeats 0 in
theorem PySem.Challenge.cw_spindlefit_k01_shops_recognized_holds : PySem.Challenge.rw_spindlefit_k01_shops_recognized.Holds := by
  w_on; o_law; k_head; (case hw => w_witness2)
  k_fill
  refine Rf.walk_ofG (l := PySem.Challenge.rw_spindlefit_k01_shops_recognized) (n := 63) (k := 31) (x := "_law_script") (D := Lk01.dLaw) rfl (by decide) rfl ⟨rfl, by decide, by decide⟩ (fun w h Y => PySem.W.kIn_of Y) ?F Lk01.law_true
  case F =>
    intro w mg fa h KX G hmg
    refine' Lk01.all_mk KX G hmg ?a0 ?l0 ?c0 ?k0 ?a1 ?l1 ?c1 ?k1 ?a2 ?l2 ?c2 ?k2 ?a3 ?l3 ?c3 ?k3 ?a4 ?l4 ?c4 ?k4 ?a5 ?l5 ?c5 ?k5 ?a6 ?l6 ?c6 ?k6 ?a7 ?l7 ?c7 ?k7 ?a8 ?l8 ?c8 ?k8 ?a9 ?l9 ?c9 ?k9 ?a10 ?l10 ?c10 ?k10 ?a11 ?l11 ?c11 ?k11 ?a12 ?l12 ?c12 ?k12 ?a13 ?l13 ?c13 ?k13 ?a14 ?l14 ?c14 ?k14 ?a15 ?l15 ?c15 ?k15 ?a16 ?l16 ?c16 ?k16 ?a17 ?l17 ?c17 ?k17 ?a18 ?l18 ?c18 ?k18 ?a19 ?l19 ?c19 ?k19 ?a20 ?l20 ?c20 ?k20 ?a21 ?l21 ?c21 ?k21 ?a22 ?l22 ?c22 ?k22 ?a23 ?l23 ?c23 ?k23 ?z0 ?z1 ?z2 ?z3 ?z4 ?z5 ?z6 ?z7 ?z8 ?z9 ?z10 ?z11 ?z12 ?z13 ?z14
    (case a0 => k_is); (case l0 => k_is); (case c0 => k_is); (case k0 => k_is)
    (case a1 => k_is); (case l1 => k_is); (case c1 => k_is); (case k1 => k_is)
    (case a2 => k_is); (case l2 => k_is); (case c2 => k_is); (case k2 => k_is)
    (case a3 => k_is); (case l3 => k_is); (case c3 => k_is); (case k3 => k_is)
    (case a4 => k_is); (case l4 => k_is); (case c4 => k_is); (case k4 => k_is)
    (case a5 => k_is); (case l5 => k_is); (case c5 => k_is); (case k5 => k_is)
    (case a6 => k_is); (case l6 => k_is); (case c6 => k_is); (case k6 => k_is)
    (case a7 => k_is); (case l7 => k_is); (case c7 => k_is); (case k7 => k_is)
    (case a8 => k_is); (case l8 => k_is); (case c8 => k_is); (case k8 => k_is)
    (case a9 => k_is); (case l9 => k_is); (case c9 => k_is); (case k9 => k_is)
    (case a10 => k_is); (case l10 => k_is); (case c10 => k_is); (case k10 => k_is)
    (case a11 => k_is); (case l11 => k_is); (case c11 => k_is); (case k11 => k_is)
    (case a12 => k_is); (case l12 => k_is); (case c12 => k_is); (case k12 => k_is)
    (case a13 => k_is); (case l13 => k_is); (case c13 => k_is); (case k13 => k_is)
    (case a14 => k_is); (case l14 => k_is); (case c14 => k_is); (case k14 => k_is)
    (case a15 => k_is); (case l15 => k_is); (case c15 => k_is); (case k15 => k_is)
    (case a16 => k_is); (case l16 => k_is); (case c16 => k_is); (case k16 => k_is)
    (case a17 => k_is); (case l17 => k_is); (case c17 => k_is); (case k17 => k_is)
    (case a18 => k_is); (case l18 => k_is); (case c18 => k_is); (case k18 => k_is)
    (case a19 => k_is); (case l19 => k_is); (case c19 => k_is); (case k19 => k_is)
    (case a20 => k_is); (case l20 => k_is); (case c20 => k_is); (case k20 => k_is)
    (case a21 => k_is); (case l21 => k_is); (case c21 => k_is); (case k21 => k_is)
    (case a22 => k_is); (case l22 => k_is); (case c22 => k_is); (case k22 => k_is)
    (case a23 => k_is); (case l23 => k_is); (case c23 => k_is); (case k23 => k_is)
    (case z0 => k_is); (case z1 => k_is); (case z2 => k_is); (case z3 => k_is); (case z4 => k_is); (case z5 => k_is); (case z6 => k_is); (case z7 => k_is); (case z8 => k_is); (case z9 => k_is); (case z10 => k_is); (case z11 => k_is); (case z12 => k_is); (case z13 => k_is); (case z14 => k_is)

