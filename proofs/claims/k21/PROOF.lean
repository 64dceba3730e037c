import PyProof.Rows.All
import Wide.All
import OpenK.AllK
import Wide.FinOn
import HandS.Defaults
import PySem.Challenge.RW_spindlefit_k21_hulls
import HandS.List
import HandS.Comp
import HandS.Iter
import HandS.Zip
import KE.GoesMore
import KE.GoesEnum
import KE.GoesZip
import HandS.Words
import HandS.TupAny
import HandS.Style
import HandS.IsInst
import HandS.Deep
import HandS.Exc
import HandS.ExcOwn
import HandS.NoneIn
import HandS.Conv
import HandS.SortInts
import KE.DataMinMax
import KE.DataFind
import PyProof.ReprRoads
import PyProof.SeqIndex
import HandS.Ends
import HandS.More
import HandS.Strs
import HandS.SetFor
import HandS.TupMul
import PyProof.Rows.CallKwBuiltin
import PyProof.SetRoads
import KE.KDictZip
import HandS.Star
import HandS.ExcInit
import KE.KExcInit
import KE.KTryMore
import PyProof.RulesAs
import KE.KExcIs
import HandS.ExcField
import PyProof.ExcBaseAll.ValueError
import PyProof.ExcBaseAll.LookupError
import PyProof.ExcBaseAll.RuntimeError
import PyProof.ExcBaseAll.OverflowError
import PyProof.InstStoreFacts
set_option Elab.async false
set_option linter.all false
set_option maxRecDepth 100000
set_option maxHeartbeats 4000000
namespace Rf
open PySem L2

def isStar : Expr → Bool
  | .Starred _ _ => true
  | _ => false
def isSlice : Expr → Bool
  | .Slice _ _ _ _ => true
  | _ => false
def isSetD : Expr → Bool
  | .Set _ _ _ => true
  | _ => false
def isCompr : Expr → Bool
  | .ListComp _ _ _ _ => true
  | .SetComp _ _ _ _ => true
  | .DictComp _ _ _ _ _ => true
  | _ => false
def isCall0 : Expr → Bool
  | .Call (.Name _ _) [] [] _ => true
  | _ => false
def noStars (es : List Expr) : Bool := es.all fun e => !isStar e
section
variable {e o : Expr} {es : List Expr} {env : Env}
theorem star_cons (h : isStar e = false) : starEach (e :: es) env = (false, eval e env) :: starEach es env := by
  cases e <;> first | rfl | cases h
theorem back_plain {pos : Pos} : ∀ {es : List Expr}, noStars es = true → (backTo pos (starEach es env)).any (·.1) = false
  | [], _ => rfl
  | e :: es, h => by
    simp only [noStars, List.all_cons, Bool.and_eq_true, Bool.not_eq_true'] at h
    rw [star_cons h.1]
    have := back_plain (pos := pos) (es := es) h.2
    simp only [backTo, List.map_cons, List.any_cons, Bool.false_or] at this ⊢
    first | exact this | simpa using this
theorem back_all {pos : Pos} : ∀ {es : List Expr}, noStars es = true → (backTo pos (starEach es env)).all (fun x => !x.1) = true
  | [], _ => rfl
  | e :: es, h => by
    simp only [noStars, List.all_cons, Bool.and_eq_true, Bool.not_eq_true'] at h
    rw [star_cons h.1]
    have := back_all (pos := pos) (es := es) h.2
    simp only [backTo, List.map_cons, List.all_cons, Bool.not_false, Bool.true_and] at this ⊢
    first | exact this | simpa using this
theorem plainIx_of (h : isSlice e = false) : PlainIx e := by
  intro a b
  cases e <;> first | rfl | cases h
theorem noMark_of {op : CmpOp} (h : isSetD e = false) : behindInMarks op e = false := by
  cases e <;> first | rfl | cases h
theorem lastMark_of {op op' : CmpOp} {b : Expr} (h : isSetD e = false) : lastMarks [op, op'] [b, e] = false := noMark_of h
theorem swap_of {t : Option Expr} {n : Nat} (h : isCompr e = false) : swapsWith e t n env = pure false := by
  cases e <;> first | rfl | cases h
theorem swapSole_of {t : Expr} {n : Nat} (h : isCompr e = false) : swapsWithSole [t] e n env = pure false := swap_of h
theorem folded_of (h : isSetD e = false) (x : Value) : foldedSetIterable e env x = pure x := by
  cases e <;> first | rfl | cases h
theorem base_of {name : Str} {w : Sem Value} (h : isCall0 o = false) : attributeBase o name env w = w := by
  unfold attributeBase
  split
  · cases h
  · rfl
end
theorem relabel_eq (scope : Scope) (env : Env) : relabel scope env = { scope with names := scope.names.map fun (n, k) => if k == .free && env.scope.kind == .function && env.scope.names.lookup n == some .cell then (n, .cell) else (n, k) } := rfl
end Rf

namespace Rf
open PySem PySem.Spec PyProof.Rows L2
def IteT (K : PySem.W.Frag) (a : Addr) : It where
  go := fun i H => ∃ (ys : List V) (y : V), SqT K H a ys ∧ ys[i]? = some y
  yld := fun i H w H2 => ∃ P y, w = .ref P ∧ H P = none ∧ H2 = upd H P (.tup [.int (i : Nat), y]) ∧
    ∀ ys, SqT K H a ys → ys[i]? = some y
  stop := fun i H => ∃ ys : List V, SqT K H a ys ∧ ys.length ≤ i
abbrev EnSt (a q r : Addr) (items : Array Value) (i : Nat) (g : Heap) : Prop :=
  (∃ old, IsEnum g q r ((i : Nat) : Int) old) ∧ g.IsTupleIter r a i ∧ q ≠ r ∧ a ≠ r
theorem turn_enT {P : Program} {w : World} {K : PySem.W.Frag} {elts : List Expr} {kk : Nat} {tpos : Pos} (a q r : Addr) :
    Turn P w K (.Tuple elts kk tpos) (IteT K a) [q, r] q (fun i g => EnSt a q r #[] i g) where
  mem := by simp
  obj := fun i g st b hb => by
    obtain ⟨⟨old, he⟩, ⟨o, ho, hc, hd⟩, _⟩ := st
    rcases (show b = q ∨ b = r by simpa using hb) with z | z
    · subst z; exact ⟨_, he, fun v x => nomatch x⟩
    · subst z; exact ⟨o, ho, fun v x => by rw [hd] at x; cases x⟩
  keep := fun i g g' st k => by
    obtain ⟨⟨old, he⟩, hi, n1, n2⟩ := st
    exact ⟨⟨old, k q (by simp) _ he⟩, hi.at fun o x => k r (by simp) o x, n1, n2⟩
  item := by
    intro X hP hw hK hc i pins s σ H E I hf st hg
    subst hP hw hK
    obtain ⟨⟨old, he⟩, hit, n1, n2⟩ := st
    obtain ⟨ys, y, hq, hy⟩ := hg
    obtain ⟨its, rv, pt, hz⟩ := I.tuple hq
    obtain ⟨u, hu, ru⟩ := rv.get hy
    have tp : s.heap.IsTuple a its.toArray := pt
    have hh : X.A.in1.handled = none := I.ok.hd hc
    have D := Draws.tuple (prog := X.prog) (w := X.w) (A := X.A.in1) hh r a n2 its.toArray
    have lq : q < s.heap.objs.size := Heap.lt_size he
    have lr : r < s.heap.objs.size := by obtain ⟨_, x, _⟩ := hit; exact Heap.lt_size x
    have na : q ≠ a := fun z => by
      subst z
      obtain ⟨o, ho, hcl, _⟩ := tp
      have he' : s.heap.get? q = _ := he
      rw [ho] at he'
      cases he'
      simp at hcl
    have nf : q ∉ [r, a] := by simp [n1, na]
    have il : i < its.toArray.size := by
      have := (List.getElem?_eq_some_iff.mp hu).1
      simpa using this
    refine wpAny_pyNext_enum_itemC D he ⟨hit, tp⟩ il n1 nf fun x g tk px ho st2 hT hsz hk => ?_
    have ex : x = u := by
      have e1 : its.toArray[i]? = some x := px
      rw [show its.toArray[i]? = some u by simpa using hu] at e1
      cases e1; rfl
    subst ex
    refine ⟨_, rfl, wpAny_letOwnedTupleGo_enum (s := { s with heap := g, toks := tk + 1 }) ho fun g2 he2 sb => ?_⟩
    have hT2 : g2.get? s.heap.objs.size = some { cls := .type "tuple", data := .seq #[.int i tk, x] } := (sb.2 _ (Nat.ne_of_gt lq)).trans hT
    have nw : ObjOk X.prog X.w (upd H s.heap.objs.size (.tup [.int (i : Nat), y])) g2 s.heap.objs.size (.tup [.int (i : Nat), y]) := by
      refine ⟨by show 2 ≤ sizeLine; decide, [.int i tk, x], .cons ⟨_, rfl⟩ (.cons ru .nil), ⟨_, hT2, rfl, _, rfl⟩⟩
    have I1 : Inv X pins σ (upd H s.heap.objs.size (.tup [.int (i : Nat), y])) { s with heap := g2, toks := tk + 1 } := by
      refine I.turnedNew (ch := [q, r]) (fun b ob hb x => ?_) hf (Nat.le_refl _) nw
      have b1 : b ≠ q := fun z => hb (by simp [z])
      have b2 : b ≠ r := fun z => hb (by simp [z])
      exact (sb.2 b b1).trans (hk b ob b1 b2 x)
    refine ⟨.ref s.heap.objs.size, _, I1, rfl, ⟨_, y, rfl, I.hok.fresh (Nat.le_refl _), rfl, fun zs hs => ?_⟩, ⟨⟨x, ?_⟩, ?_, n1, n2⟩, fun b hb => ?_⟩
    · rw [I.tuple_inj hs hq]; exact hy
    · rw [show ((i + 1 : Nat) : Int) = (i : Int) + 1 by omega]; exact he2
    · exact st2.1.at fun o x => (sb.2 r (Ne.symm n1)).trans x
    · have lb : b < s.heap.objs.size := by
        rcases (show b = q ∨ b = r by simpa using hb) with z | z <;> subst z <;> assumption
      rw [upd_ne (Nat.ne_of_lt lb)]
      exact (hf b hb).1
  done := by
    intro X hP hw hK hc i pins s σ H E I hf st hg
    subst hP hw hK
    obtain ⟨⟨old, he⟩, hit, n1, n2⟩ := st
    obtain ⟨ys, hq, hy⟩ := hg
    obtain ⟨its, rv, pt, hz⟩ := I.tuple hq
    have tp : s.heap.IsTuple a its.toArray := pt
    have hh : X.A.in1.handled = none := I.ok.hd hc
    obtain ⟨f0, f1, f2, f3, f4, f5⟩ := hf r (by simp)
    have hT : s.TypeIs (.ref q) "enumerate" := ⟨_, he, rfl⟩
    unfold pyNext
    refine wpAny_bind (wpAny_attempt (wpAny_callSpecial?_slot (name := Str.ofString "__next__") hT PySem.F.slot_enumerate_next
      (wpAny_call_entry PySem.F.slot_enumerate_next hT PySem.F.entry_enumerate_next ?_ (PySem.F.args_enumerate_next_1 _))))
    show wpAny _ _ (field (.ref q) 2 >>= _) _ _ s
    refine wpAny_bind (wpAny_field he rfl (x := .ref r) rfl (wpAny_bind ?_))
    refine wpAny_nextOf_tuple_end (i := i) (A := X.A.in1) hh hit tp ?_ fun g x eb hx => ?_
    · rw [List.getElem?_toArray]
      exact List.getElem?_eq_none (by rw [← rv.length]; exact hy)
    · obtain ⟨o, ho, hcl⟩ := hx
      refine wpAny_bind (wpAny_isInstance (v := .ref x) (T := "StopIteration") (b := true) ⟨o, ho, hcl⟩ isSubtype_stop ?_)
      exact wpAny_pure ⟨rfl, I.turned (t' := s.toks) (fun b o hb x => eb b o hb x) f0 f1 f3 f4 f5⟩
  self := fun A i s Q E st h => by
    obtain ⟨⟨_, he⟩, _⟩ := st
    exact wpAny_pyIter_enum he h
theorem en_new1 {v : Value} {o : Obj} {Hs : Heap → Prop} (B : Begins v o Hs) : Meets (Builtin.«enumerate.__new__» ⟨[.type "enumerate", v], []⟩)
    (fun _ R s => Hs s.heap ∧ R (.ok (.ret (.ref (s.heap.push o).objs.size)))
      { s with heap := (s.heap.push o).push { cls := .type "enumerate", data := .fields #[.none, .bool false, .ref s.heap.objs.size, rawInt 0, .none, .none] } }) := .of_wp fun prog w A R s h => by
    obtain ⟨hp, gs, dr, tk, os⟩ := s
    obtain ⟨b1, b2⟩ := h
    have sbt := sub_enumerate
    have pit : ∀ {A2 : Around} {E : Value → Shared → Prop} {Q : Value → Shared → Prop}, Q (.ref hp.objs.size) ⟨hp.push o, gs, dr, tk, os⟩ →
        wpAny (model prog w) A2 (pyIter v) Q E ⟨hp, gs, dr, tk, os⟩ := fun z => B.iter prog w _ _ ⟨hp, gs, dr, tk, os⟩ _ b1 z
    wp_walk using pit
    refine wpAny_stack_any fun sk => wpAny_pure ?_
    split
    · rename_i c _ _ _ _ _
      by_cases hcl : (c == Value.type "enumerate") = true
      · simp only [hcl]
        wp_walk using pit
        exact ⟨_, rfl, b2⟩
      · simp only [hcl]
        wp_walk using pit
        exact ⟨_, rfl, b2⟩
    · wp_walk using pit
      exact ⟨_, rfl, b2⟩
theorem en_call1 {P : Program} {w : World} {A : Around} {E : Value → Shared → Prop} {s : Shared} {v : Value} {o : Obj} {Hs : Heap → Prop} {Q : Value → Shared → Prop} (B : Begins v o Hs) (h1 : Hs s.heap)
    (h : ∀ g, IsEnum g (s.heap.objs.size + 1) s.heap.objs.size 0 .none → g.get? s.heap.objs.size = some o →
      (∀ b u, s.heap.get? b = some u → g.get? b = some u) → Q (.ref (s.heap.objs.size + 1)) { s with heap := g }) :
    wpAny (model P w) A (call (.type "enumerate") [v]) Q E s := by
  have ez : (s.heap.push o).objs.size = s.heap.objs.size + 1 := Heap.size_push ..
  refine callType_new PySem.F.called_enumerate (by decide) (PySem.F.typeCall_enumerate_1 _) (PySem.F.newCall_enumerate_1 _)
    (fun ob => PySem.F.args_object_init_2 ob _) PySem.F.entry_enumerate_new (en_new1 B) ⟨h1, ?_⟩
  show _ ∧ _
  rw [ez]
  have last := Heap.get?_push_size (s.heap.push o) (o := { cls := .type "enumerate", data := .fields #[.none, .bool false, .ref s.heap.objs.size, rawInt 0, .none, .none] }) rfl
  rw [ez] at last
  refine ⟨⟨_, last, rfl⟩, h _ last (Heap.get?_push_of_some _ (Heap.get?_push_size _ B.free)) fun b u x => ?_⟩
  exact Heap.get?_push_of_some _ (Heap.get?_push_of_some _ x)
def iEnumA (K : PySem.W.Frag) (ta : TA) : TI := fun σ H R => ta σ H fun vs H1 => ∃ a xs, vs = [.ref a] ∧
  ((SqL K H1 a xs ∧ R (Ite K a) H1) ∨ (SqT K H1 a xs ∧ R (IteT K a) H1))
theorem pi_enumA {X : Cx} {e : Expr} {ta : TA} {p pos tpos : Pos} {elts : List Expr} {kk : Nat} (hg : Gl X "enumerate") (hm : X.mg "enumerate" = none)
    (ha : PA X [e] ta) (hs : starEach [e] X.env = [(false, eval e X.env)] := by rfl) : PI X (.Tuple elts kk tpos) (.Call (.Name "enumerate" p) [e] [] pos) (iEnumA X.K ta) := by
  refine ⟨fun pins s σ H R I h => Call_ (ld_blt I hg hm boot_enumerate ?_)⟩
  refine PyProof.Rows.callWith_type1 (thn (ha.run pos pins s σ H _ I h) fun us s1 out => ?_) hs rfl
  obtain ⟨vs, H1, I1, r1, a, xs, rfl, hq⟩ := out
  rw [Vals.ref1 r1]
  have two : ∀ b, b ∈ [s1.heap.objs.size + 1, s1.heap.objs.size] → s1.heap.objs.size ≤ b := fun b hb => by
    rcases (show b = s1.heap.objs.size + 1 ∨ b = s1.heap.objs.size by simpa using hb) with z | z <;> subst z
    · exact Nat.le_succ _
    · exact Nat.le_refl _
  rcases hq with ⟨hq, q⟩ | ⟨hq, q⟩
  · obtain ⟨its, rv, pl, hz⟩ := I1.list hq
    refine call_enumerate_list pl.isList fun g he hit hsz hk => wpAny_pyIter_enum he ?_
    have I2 : Inv X pins σ H1 { s1 with heap := g } := by
      exact I1.kept (t' := s1.toks) hk
    have tn := turn_enum (P := X.prog) (w := X.w) (K := X.K) (elts := elts) (kk := kk) (tpos := tpos) a (s1.heap.objs.size + 1) s1.heap.objs.size
    exact ⟨s1.heap.objs.size + 1, [s1.heap.objs.size + 1, s1.heap.objs.size], _, _, H1, rfl, I2, tn, ⟨⟨.none, he⟩, hit, Nat.succ_ne_self _⟩, fun b hb => I1.fpOk (two b hb) (I1.hok.fresh (two b hb)), q⟩
  · obtain ⟨its, rv, pt, hz⟩ := I1.tuple hq
    have tp : s1.heap.IsTuple a its.toArray := pt
    have la : a < s1.heap.objs.size := by obtain ⟨o, ho, _⟩ := tp; exact Heap.lt_size ho
    refine en_call1 (begins_tuple a its.toArray) tp fun g he hit hk => wpAny_pyIter_enum he ?_
    have I2 : Inv X pins σ H1 { s1 with heap := g } := by
      exact I1.kept (t' := s1.toks) hk
    have tn := turn_enT (P := X.prog) (w := X.w) (K := X.K) (elts := elts) (kk := kk) (tpos := tpos) a (s1.heap.objs.size + 1) s1.heap.objs.size
    exact ⟨s1.heap.objs.size + 1, [s1.heap.objs.size + 1, s1.heap.objs.size], _, _, H1, rfl, I2, tn, ⟨⟨.none, he⟩, ⟨_, hit, rfl, rfl⟩, Nat.succ_ne_self _, Nat.ne_of_lt la⟩, fun b hb => I1.fpOk (two b hb) (I1.hok.fresh (two b hb)), q⟩
end Rf

namespace Rf
open PySem PySem.Spec PyProof.Rows L2
def SqK (K : PySem.W.Frag) (k : Bool) (H : Hp) (a : Addr) (xs : List V) : Prop := match k with
  | true => SqT K H a xs
  | false => SqL K H a xs
def ItK (k : Bool) (h : Heap) (r a : Addr) (i : Nat) : Prop := match k with
  | true => h.IsTupleIter r a i
  | false => h.IsListIter r a i
def DaK (k : Bool) (h : Heap) (a : Addr) (vs : Array Value) : Prop := match k with
  | true => h.IsTuple a vs
  | false => h.IsList a vs
theorem ItK.at' {k : Bool} {h h' : Heap} {r a : Addr} {i : Nat} (e : ItK k h r a i) (hk : ∀ o, h.get? r = some o → h'.get? r = some o) : ItK k h' r a i := by
  cases k
  · exact Heap.IsListIter.at e fun o x => hk o x
  · exact Heap.IsTupleIter.at e fun o x => hk o x
theorem ItK.ob {k : Bool} {h : Heap} {r a : Addr} {i : Nat} (e : ItK k h r a i) : ∃ o, h.get? r = some o ∧ ∃ f, o.data = .fields f := by
  cases k
  · obtain ⟨o, e1, _, d1⟩ := e; exact ⟨o, e1, _, d1⟩
  · obtain ⟨o, e1, _, d1⟩ := e; exact ⟨o, e1, _, d1⟩
theorem drawsK {prog : Program} {w : World} {A : Around} (k : Bool) (hh : A.handled = none) (it t : Addr) (hne : t ≠ it) (items : Array Value) :
    Draws prog w A it [it, t] items.size (fun i v => items[i]? = some v) (fun i h => ItK k h it t i ∧ DaK k h t items) := by
  cases k
  · exact Draws.list hh it t hne items
  · exact Draws.tuple hh it t hne items
theorem seqK {X : Cx} {pins : List (Addr × Obj)} {σ : L2.St} {H : Hp} {s : Shared} (I : Inv X pins σ H s) {k : Bool} {a : Addr} {xs : List V} (h : SqK X.K k H a xs) : ∃ its, Vals xs its ∧ DaK k s.heap a its.toArray ∧ a < s.heap.objs.size := by
  cases k
  · obtain ⟨its, rv, pl, hz⟩ := I.list h
    exact ⟨its, rv, pl.isList, pl.lt⟩
  · obtain ⟨its, rv, pt, hz⟩ := I.tuple h
    obtain ⟨o, ho, _⟩ := id pt
    exact ⟨its, rv, pt, Heap.lt_size ho⟩
theorem injK {X : Cx} {pins : List (Addr × Obj)} {σ : L2.St} {H : Hp} {s : Shared} (I : Inv X pins σ H s) {k : Bool} {a : Addr} {xs ys : List V} (h : SqK X.K k H a xs) (h' : SqK X.K k H a ys) : xs = ys := by
  cases k
  · exact I.list_inj h h'
  · exact I.tuple_inj h h'
def Itz3 (K : PySem.W.Frag) (k1 k2 k3 : Bool) (a b c : Addr) : It :=
  ⟨fun i H => ∃ (xs ys zs : List V) (x y z : V), SqK K k1 H a xs ∧ SqK K k2 H b ys ∧ SqK K k3 H c zs ∧ xs[i]? = some x ∧ ys[i]? = some y ∧ zs[i]? = some z,
    fun i H v H' => ∃ T x y z, v = .ref T ∧ H T = none ∧ H' = upd H T (.tup [x, y, z]) ∧ (∀ xs, SqK K k1 H a xs → xs[i]? = some x) ∧ (∀ ys, SqK K k2 H b ys → ys[i]? = some y) ∧ ∀ zs, SqK K k3 H c zs → zs[i]? = some z,
    fun i H => ∃ xs ys zs : List V, SqK K k1 H a xs ∧ SqK K k2 H b ys ∧ SqK K k3 H c zs ∧ i ≤ xs.length ∧ i ≤ ys.length ∧ i ≤ zs.length ∧ (i = xs.length ∨ i = ys.length ∨ i = zs.length)⟩
theorem turn_zip3 {P : Program} {w : World} {K : PySem.W.Frag} {elts : List Expr} {kk : Nat} {tpos : Pos} {k1 k2 k3 : Bool} {a b c z TI TO i1 i2 i3 : Addr} (D : ZipSep3 z TI TO i1 i2 i3 [i1, a] [i2, b] [i3, c]) (na : a ≠ i1) (nb : b ≠ i2) (nc : c ≠ i3) :
    Turn P w K (.Tuple elts kk tpos) (Itz3 K k1 k2 k3 a b c) [z, TI, TO, i1, i2, i3] z (fun i h => IsZip h z TI TO .none ∧ IsTupOf3 h TI (.ref i1) (.ref i2) (.ref i3) ∧ (∃ x y u, IsTupOf3 h TO x y u) ∧ ItK k1 h i1 a i ∧ ItK k2 h i2 b i ∧ ItK k3 h i3 c i) where
  mem := by simp
  obj := fun i h st d hc => by
    obtain ⟨hz, hTI, ⟨x, y, u, hTO⟩, h1, h2, h3⟩ := st
    obtain ⟨o1, e1, _, d1⟩ := h1.ob
    obtain ⟨o2, e2, _, d2⟩ := h2.ob
    obtain ⟨o3, e3, _, d3⟩ := h3.ob
    have e' : d = z ∨ d = TI ∨ d = TO ∨ d = i1 ∨ d = i2 ∨ d = i3 := by simpa using hc
    rcases e' with q | q | q | q | q | q
    · rw [q]; exact ⟨_, hz, fun v q => nomatch q⟩
    · rw [q]; exact ⟨_, hTI, fun v q => nomatch q⟩
    · rw [q]; exact ⟨_, hTO, fun v q => nomatch q⟩
    · rw [q]; exact ⟨o1, e1, fun v q => by rw [d1] at q; cases q⟩
    · rw [q]; exact ⟨o2, e2, fun v q => by rw [d2] at q; cases q⟩
    · rw [q]; exact ⟨o3, e3, fun v q => by rw [d3] at q; cases q⟩
  keep := fun i h h' st k => by
    obtain ⟨hz, hTI, ⟨x, y, u, hTO⟩, h1, h2, h3⟩ := st
    exact ⟨k z (by simp) _ hz, k TI (by simp) _ hTI, ⟨x, y, u, k TO (by simp) _ hTO⟩, h1.at' fun o q => k i1 (by simp) o q, h2.at' fun o q => k i2 (by simp) o q, h3.at' fun o q => k i3 (by simp) o q⟩
  item := by
    intro X hP hw hK hc i pins s σ H E I hf st hg
    subst hP hw hK
    obtain ⟨hz, hTI, ⟨x0, y0, u0, hTO⟩, h1, h2, h3⟩ := st
    obtain ⟨xs, ys, zs, x, y, v, hqx, hqy, hqz, hx, hy, hv⟩ := hg
    obtain ⟨its, rv, p, _⟩ := seqK I hqx
    obtain ⟨its2, rv2, p2, _⟩ := seqK I hqy
    obtain ⟨its3, rv3, p3, _⟩ := seqK I hqz
    obtain ⟨u1, hu1, ru1⟩ := rv.get hx
    obtain ⟨u2, hu2, ru2⟩ := rv2.get hy
    obtain ⟨u3, hu3, ru3⟩ := rv3.get hv
    have hzl : z < s.heap.objs.size := Heap.lt_size hz
    have hh : X.A.in1.handled = none := I.ok.hd hc
    have lt : ∀ {l : List Value} {u : Value}, l[i]? = some u → i < l.toArray.size := fun {l u} e => by
      have := (List.getElem?_eq_some_iff.mp e).1
      simpa using this
    refine wpAny_pyNext_zipD3_item (prog := X.prog) (w := X.w) (A := X.A) D (drawsK k1 hh i1 a na its.toArray) (drawsK k2 hh i2 b nb its2.toArray) (drawsK k3 hh i3 c nc its3.toArray) hz hTI hTO ⟨h1, p⟩ ⟨h2, p2⟩ ⟨h3, p3⟩ (lt hu1) (lt hu2) (lt hu3) fun x1 x2 x3 h' tk P1 P2 P3 z' TO' s1' s2' s3' hT hsz hk => ?_
    have ee : ∀ {l : List Value} {u x : Value}, l[i]? = some u → l.toArray[i]? = some x → x = u := fun {l u x} e1 e2 => by
      rw [show l.toArray[i]? = some u by simpa using e1] at e2
      cases e2; rfl
    obtain rfl := ee hu1 P1
    obtain rfl := ee hu2 P2
    obtain rfl := ee hu3 P3
    refine ⟨_, rfl, wpAny_letOwnedTupleGo_zip (s := { s with heap := h', toks := tk }) z' fun h'' z'' sb => ?_⟩
    have hT2 : h''.get? s.heap.objs.size = some { cls := .type "tuple", data := .seq #[x1, x2, x3] } := (sb.2 _ (Nat.ne_of_gt hzl)).trans hT
    have new : ObjOk X.prog X.w (upd H s.heap.objs.size (.tup [x, y, v])) h'' s.heap.objs.size (.tup [x, y, v]) :=
      ⟨by show 3 ≤ sizeLine; decide, [x1, x2, x3], .cons ru1 (.cons ru2 (.cons ru3 .nil)), ⟨_, hT2, rfl, _, rfl⟩⟩
    have I1 : Inv X pins σ (upd H s.heap.objs.size (.tup [x, y, v])) { s with heap := h'', toks := tk } :=
      I.turnedNew (t' := tk) (ch := [z, TI, TO, i1, i2, i3]) (fun c o hb q => (sb.2 c (fun q' => hb (by simp [q']))).trans (hk c o (fun q' => hb (by simp [q'])) (fun q' => hb (by simp [q'])) (fun q' => hb (by simp [q'])) (fun q' => hb (by simp [q'])) (fun q' => hb (by simp [q'])) q)) hf (Nat.le_refl _) new
    refine ⟨.ref s.heap.objs.size, _, I1, rfl, ⟨_, x, y, v, rfl, I.hok.fresh (Nat.le_refl _), rfl, fun l hl => by rw [injK I hl hqx]; exact hx, fun l hl => by rw [injK I hl hqy]; exact hy, fun l hl => by rw [injK I hl hqz]; exact hv⟩, ⟨z'', ?_, ⟨x1, x2, x3, ?_⟩, ?_, ?_, ?_⟩, fun d hcm => ?_⟩
    · exact (sb.2 _ D.TIz).trans (hk _ _ D.TIz D.TITO D.TIi1 D.TIi2 D.TIi3 hTI)
    · exact (sb.2 _ D.TOz).trans TO'
    · exact s1'.1.at' fun o q => (sb.2 _ D.zi1.symm).trans q
    · exact s2'.1.at' fun o q => (sb.2 _ D.zi2.symm).trans q
    · exact s3'.1.at' fun o q => (sb.2 _ D.zi3.symm).trans q
    · have hlt : d < s.heap.objs.size := by
        have e' : d = z ∨ d = TI ∨ d = TO ∨ d = i1 ∨ d = i2 ∨ d = i3 := by simpa using hcm
        rcases e' with q | q | q | q | q | q
        · rw [q]; exact hzl
        · rw [q]; exact Heap.lt_size hTI
        · rw [q]; exact Heap.lt_size hTO
        · rw [q]; obtain ⟨_, e1, _⟩ := h1.ob; exact Heap.lt_size e1
        · rw [q]; obtain ⟨_, e2, _⟩ := h2.ob; exact Heap.lt_size e2
        · rw [q]; obtain ⟨_, e3, _⟩ := h3.ob; exact Heap.lt_size e3
      rw [upd_ne (Nat.ne_of_lt hlt)]
      exact (hf d hcm).1
  done := by
    intro X hP hw hK hc i pins s σ H E I hf st hg
    subst hP hw hK
    obtain ⟨hz, hTI, ⟨x0, y0, u0, hTO⟩, h1, h2, h3⟩ := st
    obtain ⟨xs, ys, zs, hqx, hqy, hqz, g1, g2, g3, hend⟩ := hg
    obtain ⟨its, rv, p, _⟩ := seqK I hqx
    obtain ⟨its2, rv2, p2, _⟩ := seqK I hqy
    obtain ⟨its3, rv3, p3, _⟩ := seqK I hqz
    have l1 := rv.length
    have l2 := rv2.length
    have l3 := rv3.length
    have hh : X.A.in1.handled = none := I.ok.hd hc
    exact wpAny_pyNext_zipD3_end (prog := X.prog) (w := X.w) (A := X.A) D (drawsK k1 hh i1 a na its.toArray) (drawsK k2 hh i2 b nb its2.toArray) (drawsK k3 hh i3 c nc its3.toArray) hz hTI hTO ⟨h1, p⟩ ⟨h2, p2⟩ ⟨h3, p3⟩ (by simp; omega) (by simp; omega) (by simp; omega) (by simp; omega) fun h' tk hk => ⟨rfl, I.turnedL (t' := tk) (ch := [z, TI, TO, i1, i2, i3]) (fun c o hb q =>
      hk c o (fun q' => hb (by simp [q'])) (fun q' => hb (by simp [q'])) (fun q' => hb (by simp [q'])) (fun q' => hb (by simp [q'])) (fun q' => hb (by simp [q'])) q) hf⟩
  self := fun A i s Q E st h => wpAny_pyIter_zip st.1 h
def iZip3 (K : PySem.W.Frag) (ta : TA) : TI := fun σ H R => ta σ H fun vs H1 => ∃ k1 k2 k3 a b c xs ys zs, vs = [.ref a, .ref b, .ref c] ∧ SqK K k1 H1 a xs ∧ SqK K k2 H1 b ys ∧ SqK K k3 H1 c zs ∧ R (Itz3 K k1 k2 k3 a b c) H1
def obK (k : Bool) (a : Addr) : Obj := match k with
  | true => { cls := .type "tuple_iterator", data := .fields #[.ref a, .int 0 0] }
  | false => { cls := .type "list_iterator", data := .fields #[.ref a, .int 0 0] }
theorem beginsK (k : Bool) (a : Addr) (its : Array Value) : Begins (.ref a) (obK k a) fun h => DaK k h a its := by
  cases k
  · exact begins_list a its
  · exact begins_tuple a its
theorem itK0 {k : Bool} {h : Heap} {r a : Addr} (e : h.get? r = some (obK k a)) : ItK k h r a 0 := by
  cases k
  · exact ⟨_, e, rfl, rfl⟩
  · exact ⟨_, e, rfl, rfl⟩
theorem pi_zip3 {X : Cx} {e e2 e3 : Expr} {ta : TA} {p pos tpos : Pos} {elts : List Expr} {kk : Nat} (hg : Gl X "zip") (hm : X.mg "zip" = none) (ha : PA X [e, e2, e3] ta)
    (hs : starEach [e, e2, e3] X.env = (false, eval e X.env) :: starEach [e2, e3] X.env := by rfl) (hpl : (backTo pos (starEach [e2, e3] X.env)).any (·.1) = false := by rfl) :
    PI X (.Tuple elts kk tpos) (.Call (.Name "zip" p) [e, e2, e3] [] pos) (iZip3 X.K ta) := by
  refine ⟨fun pins s σ H R I h => ?_⟩
  refine Call_ (ld_blt I hg hm PyProof.Rows.boot_zip (PyProof.Rows.callWith_type1 (thn (ha.run pos pins s σ H _ I h) fun us s1 ⟨vs, H1, I1, r1, q1⟩ => ?_) hs hpl))
  obtain ⟨k1, k2, k3, a, b, c, xs, ys, zs, ex, hqx, hqy, hqz, q⟩ := q1
  subst ex
  cases r1 with
  | cons r rr =>
    cases rr with
    | cons r' rr =>
      cases rr with
      | cons r'' rr =>
        cases rr
        cases r
        cases r'
        cases r''
        have fresh6 : ∀ d, d ∈ [s1.heap.objs.size + 5, s1.heap.objs.size + 3, s1.heap.objs.size + 4, s1.heap.objs.size, s1.heap.objs.size + 1, s1.heap.objs.size + 2] → FpOk X pins H1 d := fun d hcm => by
          have e' : d = s1.heap.objs.size + 5 ∨ d = s1.heap.objs.size + 3 ∨ d = s1.heap.objs.size + 4 ∨ d = s1.heap.objs.size ∨ d = s1.heap.objs.size + 1 ∨ d = s1.heap.objs.size + 2 := by simpa using hcm
          have hle : s1.heap.objs.size ≤ d := by
            rcases e' with z | z | z | z | z | z
            · rw [z]; exact Nat.le_add_right _ _
            · rw [z]; exact Nat.le_add_right _ _
            · rw [z]; exact Nat.le_add_right _ _
            · rw [z]; exact Nat.le_refl _
            · rw [z]; exact Nat.le_add_right _ _
            · rw [z]; exact Nat.le_add_right _ _
          exact I1.fpOk hle (I1.hok.fresh hle)
        obtain ⟨its, rv, p1, lt1⟩ := seqK I1 hqx
        obtain ⟨its2, rv2, p2, lt2⟩ := seqK I1 hqy
        obtain ⟨its3, rv3, p3, lt3⟩ := seqK I1 hqz
        refine zip_begins3 (beginsK k1 a its.toArray) (beginsK k2 b its2.toArray) (beginsK k3 c its3.toArray) p1 p2 p3 fun h' hz hTI hTO b1 b2 b3 hsz hk => wpAny_pyIter_zip hz ?_
        have I2 : Inv X pins σ H1 { s1 with heap := h' } := I1.kept (t' := s1.toks) hk
        have D := zip_sep3 (N := s1.heap.objs.size) (fp1 := [a]) (fp2 := [b]) (fp3 := [c]) (fun d hd => by rw [List.mem_singleton.mp hd]; exact lt1) (fun d hd => by rw [List.mem_singleton.mp hd]; exact lt2) (fun d hd => by rw [List.mem_singleton.mp hd]; exact lt3)
        exact ⟨s1.heap.objs.size + 5, [s1.heap.objs.size + 5, s1.heap.objs.size + 3, s1.heap.objs.size + 4, s1.heap.objs.size, s1.heap.objs.size + 1, s1.heap.objs.size + 2], _, _, H1, rfl, I2, turn_zip3 D (Nat.ne_of_lt lt1) (Nat.ne_of_lt (Nat.lt_succ_of_lt lt2)) (Nat.ne_of_lt (Nat.lt_succ_of_lt (Nat.lt_succ_of_lt lt3))), ⟨hz, hTI, ⟨_, _, _, hTO⟩, itK0 b1, itK0 b2, itK0 b3⟩, fresh6, q⟩
end Rf

namespace Rf
open PySem L2

inductive Cell where
  | lst (ds : List PyData)
  | dct (es : List (PyData × PyData))
  | exc (nm : Str) (fs : List (Str × PyData))
def Cell.dat : Cell → Option PyData
  | .lst ds => some (.list ds)
  | _ => none
structure Xc where
  nm : Str
  fs : List (Str × PyData)
inductive SV where
  | dat (d : PyData) | fre (c : Cell) | bor (i : Nat) | thr (x : Xc)
inductive S0 where
  | dat (d : PyData) | own (c : Cell)
abbrev Fm := List (Option S0)
abbrev ME := Fm → Option (SV × Fm)
abbrev MT := Fm → Option (Bool × Fm)
abbrev MA := Fm → Option (List SV × Fm)
inductive Fl where
  | nx | rt (v : SV) | bk | ct | ex (x : Xc)
abbrev MS := Fm → Option (Fl × Fm)

def peek : SV → Fm → Option PyData
  | .dat d, _ => some d
  | .fre c, _ => c.dat
  | .bor i, fm => match fm[i]? with
    | some (some (.dat d)) => some d
    | some (some (.own c)) => c.dat
    | _ => none
  | .thr _, _ => none
def frz : SV → Fm → Option (PyData × Fm)
  | .dat d, fm => some (d, fm)
  | .fre c, fm => match c.dat with
    | some d => some (d, fm)
    | none => none
  | .bor i, fm => match fm[i]? with
    | some (some (.dat d)) => some (d, fm)
    | some (some (.own c)) => match c.dat with
      | some d => some (d, fm.set i (some (.dat d)))
      | none => none
    | _ => none
  | .thr _, _ => none
def frzAll : List SV → Fm → Option (List PyData × Fm)
  | [], fm => some ([], fm)
  | v :: vs, fm => match frz v fm with
    | some (d, fm1) => match frzAll vs fm1 with
      | some (ds, fm2) => some (d :: ds, fm2)
      | none => none
    | none => none

def SqP (K : PySem.W.Frag) (F : Hp) (a : Addr) (xs : List V) : Prop := SqT K F a xs ∧ ((∃ o, F a = some (.frz o (.tup xs)) ∧ o.dict = none) ∨ ∃ o, K.lookup a = some o ∧ o.cls = .type "tuple" ∧ o.dict = none)
mutual
inductive Dq (K : PySem.W.Frag) (F : Hp) : V → PyData → Prop
  | non : Dq K F .non .none
  | bl (b : Bool) : Dq K F (.bl b) (.bool b)
  | int (i : Int) : Dq K F (.int i) (.int i)
  | str (x : Str) : Dq K F (.str x) (.str x)
  | lst {a : Addr} {xs : List V} {ds : List PyData} (h : SqL K F a xs) (r : DqAll K F xs ds) : Dq K F (.ref a) (.list ds)
  | tup {a : Addr} {xs : List V} {ds : List PyData} (h : SqP K F a xs) (r : DqAll K F xs ds) : Dq K F (.ref a) (.tuple ds)
inductive DqAll (K : PySem.W.Frag) (F : Hp) : List V → List PyData → Prop
  | nil : DqAll K F [] []
  | cons {v : V} {vs : List V} {d : PyData} {ds : List PyData} (h : Dq K F v d) (r : DqAll K F vs ds) : DqAll K F (v :: vs) (d :: ds)
end
mutual
theorem Dq.dp {K : PySem.W.Frag} {F : Hp} : ∀ {v : V} {d : PyData}, Dq K F v d → Dp K F v d
  | _, _, .non => .non
  | _, _, .bl b => .bl b
  | _, _, .int i => .int i
  | _, _, .str x => .str x
  | _, _, .lst h r => .lst h r.dp
  | _, _, .tup h r => .tup h.1 r.dp
theorem DqAll.dp {K : PySem.W.Frag} {F : Hp} : ∀ {vs : List V} {ds : List PyData}, DqAll K F vs ds → DpAll K F vs ds
  | _, _, .nil => .nil
  | _, _, .cons h r => .cons h.dp r.dp
end
section
variable {K : PySem.W.Frag} {F F' G H H' : Hp}
theorem Same.upd' {p : Addr} {o : HO} (h : F p = none) : Same F (upd F p o) := fun b u e => by
  rw [upd_ne (ne_of_none e h)]; exact e
theorem sqT_mono {a : Addr} {xs : List V} (e : Same F F') (h : SqT K F a xs) : SqT K F' a xs := by
  rcases h with (h | ⟨o, h⟩) | h
  · exact .inl (.inl (e _ _ h))
  · exact .inl (.inr ⟨o, e _ _ h⟩)
  · exact .inr h
theorem sqP_mono {a : Addr} {xs : List V} (e : Same F F') (h : SqP K F a xs) : SqP K F' a xs := ⟨sqT_mono e h.1, h.2.elim (fun ⟨o, h1, h2⟩ => .inl ⟨o, e _ _ h1, h2⟩) .inr⟩
mutual
theorem dp_mono (e : Same F F') : ∀ {v : V} {d : PyData}, Dq K F v d → Dq K F' v d
  | _, _, .non => .non
  | _, _, .bl b => .bl b
  | _, _, .int i => .int i
  | _, _, .str x => .str x
  | _, _, .lst h r => .lst (e.seq h) (dpAll_mono e r)
  | _, _, .tup h r => .tup (sqP_mono e h) (dpAll_mono e r)
theorem dpAll_mono (e : Same F F') : ∀ {vs : List V} {ds : List PyData}, DqAll K F vs ds → DqAll K F' vs ds
  | _, _, .nil => .nil
  | _, _, .cons h r => .cons (dp_mono e h) (dpAll_mono e r)
end
theorem dpAll_len : ∀ {vs : List V} {ds : List PyData}, DqAll K F vs ds → vs.length = ds.length
  | _, _, .nil => rfl
  | _, _, .cons _ r => by simp [dpAll_len r]
theorem dpAll_get : ∀ {vs : List V} {ds : List PyData} {i : Nat} {d : PyData}, DqAll K F vs ds → ds[i]? = some d → ∃ v, vs[i]? = some v ∧ Dq K F v d
  | _, _, _, _, .nil, e => by simp at e
  | _, _, 0, _, .cons h _, e => by simp at e; subst e; exact ⟨_, rfl, h⟩
  | _, _, i + 1, d, .cons _ r, e => by
    obtain ⟨v, h1, h2⟩ := dpAll_get (i := i) (d := d) r (by simpa using e)
    exact ⟨v, by simpa using h1, h2⟩
theorem dpAll_app : ∀ {vs us : List V} {ds es : List PyData}, DqAll K F vs ds → DqAll K F us es → DqAll K F (vs ++ us) (ds ++ es)
  | _, _, _, _, .nil, s => s
  | _, _, _, _, .cons h r, s => .cons h (dpAll_app r s)
theorem dpAll_take : ∀ {vs : List V} {ds : List PyData} (n : Nat), DqAll K F vs ds → DqAll K F (vs.take n) (ds.take n)
  | _, _, 0, _ => .nil
  | _, _, _ + 1, .nil => .nil
  | _, _, n + 1, .cons h r => .cons h (dpAll_take n r)
theorem dpAll_drop : ∀ {vs : List V} {ds : List PyData} (n : Nat), DqAll K F vs ds → DqAll K F (vs.drop n) (ds.drop n)
  | _, _, 0, r => r
  | _, _, _ + 1, .nil => .nil
  | _, _, n + 1, .cons _ r => dpAll_drop n r
theorem dpAll_set {v : V} {d : PyData} (h : Dq K F v d) : ∀ {vs : List V} {ds : List PyData} (n : Nat), DqAll K F vs ds → DqAll K F (vs.set n v) (ds.set n d)
  | _, _, _, .nil => .nil
  | _, _, 0, .cons _ r => .cons h r
  | _, _, n + 1, .cons q r => .cons q (dpAll_set h n r)
theorem dpAll_erase : ∀ {vs : List V} {ds : List PyData} (n : Nat), DqAll K F vs ds → DqAll K F (vs.eraseIdx n) (ds.eraseIdx n)
  | _, _, _, .nil => .nil
  | _, _, 0, .cons _ r => r
  | _, _, n + 1, .cons q r => .cons q (dpAll_erase n r)
theorem dpAll_rev : ∀ {vs : List V} {ds : List PyData}, DqAll K F vs ds → DqAll K F vs.reverse ds.reverse
  | _, _, .nil => .nil
  | _, _, .cons h r => by
    rw [List.reverse_cons, List.reverse_cons]
    exact dpAll_app (dpAll_rev r) (.cons h .nil)

def exk (a C : Addr) (d : Option Addr) : HO := .ext fun h => ∃ (o : Obj) (vs : Array Value), h.get? a = some o ∧ o.cls = .ref C ∧ o.dict = d ∧ o.data = .fields vs
def CRel (K : PySem.W.Frag) (F H : Hp) (p : Addr) : Cell → Prop
  | .lst ds => ∃ vs, H p = some (.lst vs) ∧ DqAll K F vs ds
  | .dct _ => False
  | .exc nm fs => ∃ (C : Addr) (d : Option Addr), PySem.W.nsIn K mainGlobals nm = some (some (.ref C)) ∧ H p = some (exk p C d) ∧
    ((fs = [] ∧ d = none) ∨ ∃ (f : Str) (pd : PyData) (dx : Addr) (v : V), fs = [(f, pd)] ∧ d = some dx ∧ F dx = some (.xd [(f, v)]) ∧ Dq K F v pd)
theorem CRel.some' {p : Addr} {c : Cell} (h : CRel K F H p c) : ∃ o, H p = some o := by
  cases c with
  | lst ds => obtain ⟨vs, e, _⟩ := h; exact ⟨_, e⟩
  | dct es => exact h.elim
  | exc nm fs => obtain ⟨C, d, _, e, _⟩ := h; exact ⟨_, e⟩
theorem CRel.mono {p : Addr} {c : Cell} (e : Same F F') (k : ∀ o, H p = some o → H' p = some o) (h : CRel K F H p c) : CRel K F' H' p c := by
  cases c with
  | lst ds => obtain ⟨vs, q, r⟩ := h; exact ⟨vs, k _ q, dpAll_mono e r⟩
  | dct es => exact h.elim
  | exc nm fs =>
    obtain ⟨C, d, hn, q, r⟩ := h
    refine ⟨C, d, hn, k _ q, r.imp id fun ⟨f, pd, dx, v, r1, r2, r3, r4⟩ => ⟨f, pd, dx, v, r1, r2, e _ _ r3, dp_mono e r4⟩⟩
theorem CRel.dp {p : Addr} {c : Cell} {d : PyData} (s : Same F H) (hd : c.dat = some d) (h : CRel K F H p c) : Dq K H (.ref p) d := by
  cases c with
  | lst ds => cases hd; obtain ⟨vs, q, r⟩ := h; exact .lst (SqL.of q) (dpAll_mono s r)
  | dct es => cases hd
  | exc nm fs => cases hd
theorem CRel.frz {p : Addr} {c : Cell} {o : HO} {d : PyData} (hf : F p = none) (ho : H p = some o) (hd : c.dat = some d) (h : CRel K F H p c) : Dq K (upd F p o) (.ref p) d := by
  cases c with
  | lst ds =>
    cases hd
    obtain ⟨vs, q, r⟩ := h
    rw [ho] at q; cases q
    exact .lst (SqL.of upd_same) (dpAll_mono (Same.upd' hf) r)
  | dct es => cases hd
  | exc nm fs => cases hd

def Live (σ : L2.St) (fm : Fm) (p : Addr) : Prop := ∃ (i : Nat) (c : Cell), fm[i]? = some (some (.own c)) ∧ σ[i]? = some (some (.ref p))
structure Rel (K : PySem.W.Frag) (F H : Hp) (σ : L2.St) (fm : Fm) : Prop where
  sub : Same F H
  len : fm.length = σ.length
  dat : ∀ (i : Nat) (d : PyData), fm[i]? = some (some (.dat d)) → ∃ v, σ[i]? = some (some v) ∧ Dq K F v d
  own : ∀ (i : Nat) (c : Cell), fm[i]? = some (some (.own c)) → ∃ p, σ[i]? = some (some (.ref p)) ∧ F p = none ∧ CRel K F H p c
  apart : ∀ (i j : Nat) (c c' : Cell) (p : Addr), i ≠ j → fm[i]? = some (some (.own c)) → fm[j]? = some (some (.own c')) → σ[i]? = some (some (.ref p)) → σ[j]? ≠ some (some (.ref p))
structure Ext (L : Addr → Prop) (F H : Hp) (L' : Addr → Prop) (F' H' : Hp) : Prop where
  same : Same F F'
  keep : ∀ a o, ¬ L a → H a = some o → H' a = some o
  new : ∀ a o, F' a = some o → F a = some o ∨ H a = none ∨ L a
  live : ∀ a, L' a → L a ∨ H a = none
  grow : ∀ a, H' a = none → H a = none
theorem Ext.refl {L : Addr → Prop} : Ext L F H L F H := ⟨Same.refl _, fun _ _ _ h => h, fun _ _ h => .inl h, fun _ h => .inl h, fun _ h => h⟩
theorem Ext.trans {L L1 L2 : Addr → Prop} {F1 H1 F2 H2 : Hp} (a : Ext L F H L1 F1 H1) (b : Ext L1 F1 H1 L2 F2 H2) : Ext L F H L2 F2 H2 where
  same := a.same.trans b.same
  keep := fun p o hl h => b.keep p o (fun q => by
    rcases a.live p q with q | q
    · exact hl q
    · rw [h] at q; cases q) (a.keep p o hl h)
  new := fun p o h => by
    rcases b.new p o h with q | q | q
    · exact a.new p o q
    · exact .inr (.inl (a.grow p q))
    · rcases a.live p q with q | q
      · exact .inr (.inr q)
      · exact .inr (.inl q)
  live := fun p h => by
    rcases b.live p h with q | q
    · exact a.live p q
    · exact .inr (a.grow p q)
  grow := fun p h => a.grow p (b.grow p h)

def VRel (K : PySem.W.Frag) (F H : Hp) (σ : L2.St) (fm : Fm) : SV → V → Prop
  | .dat d, x => Dq K F x d
  | .fre c, x => ∃ p, x = .ref p ∧ F p = none ∧ CRel K F H p c ∧ ¬ Live σ fm p
  | .bor i, x => σ[i]? = some (some x) ∧ ∃ s : S0, fm[i]? = some (some s)
  | .thr _, _ => False
def XRel (K : PySem.W.Frag) (F H : Hp) (x : Xc) (cls : Value) (d : Option Addr) : Prop := ∃ C : Addr, cls = .ref C ∧ PySem.W.nsIn K mainGlobals x.nm = some (some (.ref C)) ∧
  ((x.fs = [] ∧ d = none) ∨ ∃ (f : Str) (pd : PyData) (dx : Addr) (v : V), x.fs = [(f, pd)] ∧ d = some dx ∧ H dx = some (.xd [(f, v)]) ∧ Dq K F v pd)
def XNew (H0 : Hp) (d : Option Addr) : Prop := ∀ dx, d = some dx → H0 dx = none
theorem XNew.back {L L' : Addr → Prop} (e : Ext L F H L' F' H') {d : Option Addr} (h : XNew H' d) : XNew H d := fun dx q => e.grow dx (h dx q)
def VNew (H0 : Hp) : SV → V → Prop
  | .fre _, x => ∀ p, x = .ref p → H0 p = none
  | _, _ => True
theorem VNew.back {L L' : Addr → Prop} (e : Ext L F H L' F' H') {v : SV} {x : V} (h : VNew H' v x) : VNew H v x := by
  cases v with
  | fre c => exact fun p q => e.grow p (h p q)
  | dat _ => trivial
  | bor _ => trivial
  | thr _ => trivial
variable {σ : L2.St} {fm fm' : Fm} {v : SV} {x : V}
def Keeps (fm fm' : Fm) : Prop := ∀ (i : Nat) (s : S0), fm[i]? = some (some s) → ∃ s' : S0, fm'[i]? = some (some s')
theorem Keeps.refl (fm : Fm) : Keeps fm fm := fun _ s h => ⟨s, h⟩
theorem Keeps.trans {a b c : Fm} (h : Keeps a b) (k : Keeps b c) : Keeps a c := fun i s e => by
  obtain ⟨s1, e1⟩ := h i s e
  exact k i s1 e1
theorem VRel.mono (e : Ext (Live σ fm) F H (Live σ fm') F' H') (k : Keeps fm fm') (h : VRel K F H σ fm v x) : VRel K F' H' σ fm' v x := by
  cases v with
  | dat d => exact dp_mono e.same h
  | fre c =>
    obtain ⟨p, ex, hf, hc, hl⟩ := h
    obtain ⟨o, ho⟩ := hc.some'
    refine ⟨p, ex, ?_, hc.mono e.same (fun o h => e.keep p o hl h), fun q => ?_⟩
    · cases q : F' p with
      | none => rfl
      | some u =>
        rcases e.new p u q with z | z | z
        · rw [hf] at z; cases z
        · rw [ho] at z; cases z
        · exact absurd z hl
    · rcases e.live p q with z | z
      · exact hl z
      · rw [ho] at z; cases z
  | bor i =>
    obtain ⟨h1, s, h2⟩ := h
    exact ⟨h1, k i s h2⟩
  | thr _ => exact h.elim
theorem peek_dp (R : Rel K F H σ fm) (h : VRel K F H σ fm v x) {d : PyData} (hp : peek v fm = some d) : Dq K H x d := by
  cases v with
  | thr _ => exact h.elim
  | dat d' => cases hp; exact dp_mono R.sub h
  | fre c =>
    obtain ⟨p, rfl, hf, hc, _⟩ := h
    exact hc.dp R.sub hp
  | bor i =>
    obtain ⟨h1, s, h2⟩ := h
    simp only [peek, h2] at hp
    cases s with
    | dat d' =>
      cases hp
      obtain ⟨y, hy, q⟩ := R.dat i _ h2
      rw [h1] at hy; cases hy
      exact dp_mono R.sub q
    | own c =>
      obtain ⟨p, hy, hf, q⟩ := R.own i _ h2
      rw [h1] at hy; cases hy
      exact q.dp R.sub hp
theorem peek_list (R : Rel K F H σ fm) (h : VRel K F H σ fm v x) {ds : List PyData} (hp : peek v fm = some (.list ds)) : ∃ a vs, x = .ref a ∧ SqL K H a vs ∧ DqAll K F vs ds := by
  have fromDp : ∀ {y : V}, Dq K F y (.list ds) → ∃ a vs, y = .ref a ∧ SqL K H a vs ∧ DqAll K F vs ds := fun q => by
    cases q with
    | lst s r => exact ⟨_, _, rfl, R.sub.seq s, r⟩
  have fromC : ∀ {p : Addr} {c : Cell}, c.dat = some (.list ds) → CRel K F H p c → ∃ a vs, V.ref p = .ref a ∧ SqL K H a vs ∧ DqAll K F vs ds := fun {p c} e q => by
    cases c with
    | lst es =>
      cases e
      obtain ⟨vs, q, r⟩ := q
      exact ⟨p, vs, rfl, SqL.of q, r⟩
    | dct es => cases e
    | exc nm fs => cases e
  cases v with
  | thr _ => exact h.elim
  | dat d' => cases hp; exact fromDp h
  | fre c =>
    obtain ⟨p, rfl, hf, hc, _⟩ := h
    exact fromC hp hc
  | bor i =>
    obtain ⟨h1, s, h2⟩ := h
    simp only [peek, h2] at hp
    cases s with
    | dat d' =>
      cases hp
      obtain ⟨y, hy, q⟩ := R.dat i _ h2
      rw [h1] at hy; cases hy
      exact fromDp q
    | own c =>
      obtain ⟨p, hy, hf, q⟩ := R.own i _ h2
      rw [h1] at hy; cases hy
      exact fromC hp q
theorem Cell.dat_list {c : Cell} {d : PyData} (h : c.dat = some d) : ∃ ds, d = .list ds := by
  cases c with
  | lst ds => cases h; exact ⟨_, rfl⟩
  | dct es => cases h
  | exc nm fs => cases h
theorem peek_flat (R : Rel K F H σ fm) (h : VRel K F H σ fm v x) {d : PyData} (hp : peek v fm = some d) (hd : ∀ ds, d ≠ .list ds) : Dq K F x d := by
  cases v with
  | thr _ => exact h.elim
  | dat d' => cases hp; exact h
  | fre c =>
    obtain ⟨ds, e⟩ := c.dat_list hp
    exact absurd e (hd ds)
  | bor i =>
    obtain ⟨h1, s, h2⟩ := h
    simp only [peek, h2] at hp
    cases s with
    | dat d' =>
      cases hp
      obtain ⟨y, hy, q⟩ := R.dat i _ h2
      rw [h1] at hy; cases hy
      exact q
    | own c =>
      obtain ⟨ds, e⟩ := c.dat_list hp
      exact absurd e (hd ds)
theorem peek_tup (R : Rel K F H σ fm) (h : VRel K F H σ fm v x) {ds : List PyData} (hp : peek v fm = some (.tuple ds)) : ∃ a vs, x = .ref a ∧ SqP K H a vs ∧ DqAll K F vs ds := by
  cases peek_flat R h hp (fun _ e => nomatch e) with
  | tup s r => exact ⟨_, _, rfl, sqP_mono R.sub s, r⟩
theorem peek_int (R : Rel K F H σ fm) (h : VRel K F H σ fm v x) {i : Int} (hp : peek v fm = some (.int i)) : x = .int i := by
  cases peek_flat R h hp (fun _ e => nomatch e); rfl
theorem peek_bool (R : Rel K F H σ fm) (h : VRel K F H σ fm v x) {i : Bool} (hp : peek v fm = some (.bool i)) : x = .bl i := by
  cases peek_flat R h hp (fun _ e => nomatch e); rfl
theorem peek_none (R : Rel K F H σ fm) (h : VRel K F H σ fm v x) (hp : peek v fm = some .none) : x = .non := by
  cases peek_flat R h hp (fun _ e => nomatch e); rfl
theorem peek_str (R : Rel K F H σ fm) (h : VRel K F H σ fm v x) {i : Str} (hp : peek v fm = some (.str i)) : x = .str i := by
  cases peek_flat R h hp (fun _ e => nomatch e); rfl

theorem keeps_set {i : Nat} {s : S0} : Keeps fm (fm.set i (some s)) := fun j t h => by
  by_cases e : i = j
  · subst e
    have hl : i < fm.length := by
      obtain ⟨hl, _⟩ := List.getElem?_eq_some_iff.mp h
      exact hl
    exact ⟨s, List.getElem?_set_self hl⟩
  · exact ⟨t, by rw [List.getElem?_set_ne e]; exact h⟩
theorem live_frz {i : Nat} {d : PyData} {p : Addr} (h : Live σ (fm.set i (some (.dat d))) p) : Live σ fm p := by
  obtain ⟨j, c, h1, h2⟩ := h
  by_cases e : i = j
  · subst e
    have hl : i < fm.length := by
      obtain ⟨hl, _⟩ := List.getElem?_eq_some_iff.mp h1
      simpa using hl
    rw [List.getElem?_set_self hl] at h1
    cases h1
  · rw [List.getElem?_set_ne e] at h1
    exact ⟨j, c, h1, h2⟩
theorem Rel.frz1 {p : Addr} {o : HO} (R : Rel K F H σ fm) (hf : F p = none) (ho : H p = some o) (hl : ¬ Live σ fm p) : Rel K (upd F p o) H σ fm := by
  have e : Same F (upd F p o) := Same.upd' hf
  refine ⟨fun b u q => ?_, R.len, fun i d h => ?_, fun i c h => ?_, R.apart⟩
  · by_cases z : b = p
    · subst z; rw [upd_same] at q; cases q; exact ho
    · rw [upd_ne z] at q; exact R.sub _ _ q
  · obtain ⟨y, h1, h2⟩ := R.dat i d h
    exact ⟨y, h1, dp_mono e h2⟩
  · obtain ⟨q, h1, h2, h3⟩ := R.own i c h
    have ne : q ≠ p := fun z => hl (by subst z; exact ⟨i, c, h, h1⟩)
    exact ⟨q, h1, by rw [upd_ne ne]; exact h2, h3.mono e fun _ h => h⟩
theorem Rel.frz2 {i : Nat} {c : Cell} {p : Addr} {o : HO} {dd : PyData} (R : Rel K F H σ fm) (hi : fm[i]? = some (some (.own c))) (hx : σ[i]? = some (some (.ref p))) (ho : H p = some o) (hdd : c.dat = some dd) :
    Rel K (upd F p o) H σ (fm.set i (some (.dat dd))) := by
  obtain ⟨p', hx', hf, hc⟩ := R.own i c hi
  rw [hx] at hx'; cases hx'
  have e : Same F (upd F p o) := Same.upd' hf
  have hil : i < fm.length := by
    obtain ⟨hl, _⟩ := List.getElem?_eq_some_iff.mp hi
    exact hl
  refine ⟨fun b u q => ?_, by rw [List.length_set]; exact R.len, fun j d h => ?_, fun j c' h => ?_, fun j k c' c'' q hne h1 h2 h3 => ?_⟩
  · by_cases z : b = p
    · subst z; rw [upd_same] at q; cases q; exact ho
    · rw [upd_ne z] at q; exact R.sub _ _ q
  · by_cases z : i = j
    · subst z
      rw [List.getElem?_set_self hil] at h
      cases h
      exact ⟨_, hx, hc.frz hf ho hdd⟩
    · rw [List.getElem?_set_ne z] at h
      obtain ⟨y, h1, h2⟩ := R.dat j d h
      exact ⟨y, h1, dp_mono e h2⟩
  · by_cases z : i = j
    · subst z
      rw [List.getElem?_set_self hil] at h
      cases h
    · rw [List.getElem?_set_ne z] at h
      obtain ⟨q, h1, h2, h3⟩ := R.own j c' h
      have ne : q ≠ p := fun w => by subst w; exact R.apart i j c c' q z hi h hx h1
      exact ⟨q, h1, by rw [upd_ne ne]; exact h2, h3.mono e fun _ h => h⟩
  · have f : ∀ {j : Nat} {c' : Cell}, (fm.set i (some (.dat dd)))[j]? = some (some (.own c')) → fm[j]? = some (some (.own c')) := fun {j c'} h => by
      by_cases z : i = j
      · subst z; rw [List.getElem?_set_self hil] at h; cases h
      · rw [List.getElem?_set_ne z] at h; exact h
    exact R.apart j k c' c'' q hne (f h1) (f h2) h3
theorem frz_ok {L : Addr → Prop} {F0 H0 : Hp} {d : PyData} (E : Ext L F0 H0 (Live σ fm) F H) (R : Rel K F H σ fm) (h : VRel K F H σ fm v x) (hn : VNew H0 v x) (hp : frz v fm = some (d, fm')) :
    ∃ F', Ext L F0 H0 (Live σ fm') F' H ∧ Ext (Live σ fm) F H (Live σ fm') F H ∧ Same F F' ∧ Rel K F' H σ fm' ∧ Dq K F' x d ∧ Keeps fm fm' ∧ (∀ a o, F' a = some o → F a = some o ∨ Live σ fm a ∨ (x = .ref a ∧ ∃ c, v = .fre c)) := by
  cases v with
  | thr _ => exact h.elim
  | dat d' =>
    cases hp
    exact ⟨F, E, Ext.refl, Same.refl _, R, h, Keeps.refl _, fun _ _ h => .inl h⟩
  | fre c =>
    obtain ⟨p, rfl, hf, hc, hl⟩ := h
    obtain ⟨o, ho⟩ := hc.some'
    have e : Same F (upd F p o) := Same.upd' hf
    simp only [frz] at hp
    split at hp
    case h_2 => cases hp
    rename_i dd hdd
    cases hp
    refine ⟨upd F p o, ⟨E.same.trans e, E.keep, fun a u q => ?_, E.live, E.grow⟩, Ext.refl, e, R.frz1 hf ho hl, hc.frz hf ho hdd, Keeps.refl _, fun a u q => ?_⟩
    · by_cases z : a = p
      · subst z; exact .inr (.inl (hn _ rfl))
      · rw [upd_ne z] at q; exact E.new a u q
    · by_cases z : a = p
      · subst z; exact .inr (.inr ⟨rfl, _, rfl⟩)
      · rw [upd_ne z] at q; exact .inl q
  | bor i =>
    obtain ⟨h1, s, h2⟩ := h
    simp only [frz, h2] at hp
    cases s with
    | dat d' =>
      cases hp
      obtain ⟨y, hy, q⟩ := R.dat i _ h2
      rw [h1] at hy; cases hy
      exact ⟨F, E, Ext.refl, Same.refl _, R, q, Keeps.refl _, fun _ _ h => .inl h⟩
    | own c =>
      obtain ⟨p, hy, hf, hc⟩ := R.own i _ h2
      rw [h1] at hy; cases hy
      obtain ⟨o, ho⟩ := hc.some'
      simp only at hp
      split at hp
      case h_2 => cases hp
      rename_i dd hdd
      cases hp
      have e : Same F (upd F p o) := Same.upd' hf
      refine ⟨upd F p o, ⟨E.same.trans e, E.keep, fun a u q => ?_, fun a q => E.live a (live_frz q), E.grow⟩, ⟨Same.refl _, fun _ _ _ h => h, fun _ _ h => .inl h, fun a q => .inl (live_frz q), fun _ h => h⟩, e, R.frz2 h2 h1 ho hdd, hc.frz hf ho hdd, keeps_set, fun a u q => ?_⟩
      · by_cases z : a = p
        · subst z
          rcases E.live a ⟨i, c, h2, h1⟩ with w | w
          · exact .inr (.inr w)
          · exact .inr (.inl w)
        · rw [upd_ne z] at q; exact E.new a u q
      · by_cases z : a = p
        · subst z; exact .inr (.inl ⟨i, c, h2, h1⟩)
        · rw [upd_ne z] at q; exact .inl q
end
end Rf

namespace Rf
open PySem L2

structure Aft (K : PySem.W.Frag) (σ : L2.St) (F H : Hp) (fm : Fm) (F' H' : Hp) (fm' : Fm) : Prop where
  ext : Ext (Live σ fm) F H (Live σ fm') F' H'
  kp : Keeps fm fm'
  rel : Rel K F' H' σ fm'
section
variable {K : PySem.W.Frag} {F F' F1 H H' H1 : Hp} {σ σ' : L2.St} {fm fm' fm1 : Fm} {v : SV} {x : V}
theorem Aft.refl (R : Rel K F H σ fm) : Aft K σ F H fm F H fm := ⟨Ext.refl, Keeps.refl _, R⟩
theorem Aft.trans (a : Aft K σ F H fm F1 H1 fm1) (b : Aft K σ F1 H1 fm1 F' H' fm') : Aft K σ F H fm F' H' fm' := ⟨a.ext.trans b.ext, a.kp.trans b.kp, b.rel⟩
theorem Aft.val (a : Aft K σ F H fm F' H' fm') (h : VRel K F H σ fm v x) : VRel K F' H' σ fm' v x := h.mono a.ext a.kp
theorem Aft.new (a : Aft K σ F H fm F' H' fm') (h : VNew H' v x) : VNew H v x := h.back a.ext
theorem Aft.lay {p : Addr} {o : HO} (R : Rel K F H σ fm) (hp : H p = none) : Aft K σ F H fm F (upd H p o) fm := by
  have s : Same H (upd H p o) := Same.upd' hp
  refine ⟨⟨Same.refl _, fun a u _ h => s a u h, fun a u h => .inl h, fun a h => .inl h, fun a h => ?_⟩, Keeps.refl _, ⟨R.sub.trans s, R.len, R.dat, fun i c h => ?_, R.apart⟩⟩
  · exact s.free h
  · obtain ⟨q, h1, h2, h3⟩ := R.own i c h
    exact ⟨q, h1, h2, h3.mono (Same.refl _) fun u h => s q u h⟩
theorem Rel.fnone {p : Addr} (R : Rel K F H σ fm) (hp : H p = none) : F p = none := R.sub.free hp
theorem Rel.nolive {p : Addr} (R : Rel K F H σ fm) (hp : H p = none) : ¬ Live σ fm p := fun ⟨i, c, h1, h2⟩ => by
  obtain ⟨q, h3, _, h4⟩ := R.own i c h1
  rw [h2] at h3; cases h3
  obtain ⟨o, h⟩ := h4.some'
  rw [hp] at h; cases h
theorem Aft.layF {p : Addr} {o : HO} (R : Rel K F H σ fm) (hp : H p = none) : Aft K σ F H fm (upd F p o) (upd H p o) fm := by
  have a := Aft.lay (o := o) R hp
  have hf := R.fnone hp
  have R2 := a.rel.frz1 (p := p) (o := o) hf upd_same (R.nolive hp)
  refine ⟨⟨Same.upd' hf, a.ext.keep, fun b u h => ?_, a.ext.live, a.ext.grow⟩, a.kp, R2⟩
  by_cases z : b = p
  · subst z; exact .inr (.inl hp)
  · rw [upd_ne z] at h; exact .inl h
theorem Aft.newL {p : Addr} {vs : List V} {ds : List PyData} (R : Rel K F H σ fm) (hp : H p = none) (r : DqAll K F vs ds) : VRel K F (upd H p (.lst vs)) σ fm (.fre (.lst ds)) (.ref p) :=
  ⟨p, rfl, R.fnone hp, ⟨vs, upd_same, r⟩, R.nolive hp⟩
theorem Aft.newT {p : Addr} {o : Obj} {vs : List V} {ds : List PyData} (R : Rel K F H σ fm) (hp : H p = none) (hd : o.dict = none) (r : DqAll K F vs ds) : VRel K (upd F p (.frz o (.tup vs))) (upd H p (.frz o (.tup vs))) σ fm (.dat (.tuple ds)) (.ref p) :=
  .tup ⟨.inl (.inr ⟨o, upd_same⟩), .inl ⟨o, upd_same, hd⟩⟩ (dpAll_mono (Same.upd' (R.fnone hp)) r)
theorem VNew.dat {d : PyData} : VNew H (.dat d) x := trivial
theorem VNew.ref {c : Cell} {p : Addr} (h : H p = none) : VNew H (.fre c) (.ref p) := fun q e => by cases e; exact h

def tE (K : PySem.W.Frag) (m : ME) : TE := fun σ H Q => ∃ F fm v fm', Rel K F H σ fm ∧ m fm = some (v, fm') ∧
  ∀ x F' H', Aft K σ F H fm F' H' fm' → VRel K F' H' σ fm' v x → VNew H v x → Q x H'
def tT (K : PySem.W.Frag) (m : MT) : TT := fun σ H Q => ∃ F fm b fm', Rel K F H σ fm ∧ m fm = some (b, fm') ∧
  ∀ F' H', Aft K σ F H fm F' H' fm' → Q b H'
inductive VsRel (K : PySem.W.Frag) (F H : Hp) (σ : L2.St) (fm : Fm) : List SV → List V → Prop
  | nil : VsRel K F H σ fm [] []
  | cons {v : SV} {x : V} {vs : List SV} {xs : List V} : VRel K F H σ fm v x → VsRel K F H σ fm vs xs → (∀ (c : Cell), v = .fre c → ∀ (j : Nat) (c' : Cell), vs[j]? = some (.fre c') → xs[j]? ≠ some x) → VsRel K F H σ fm (v :: vs) (x :: xs)
inductive VsNew (H : Hp) : List SV → List V → Prop
  | nil : VsNew H [] []
  | cons {v : SV} {x : V} {vs : List SV} {xs : List V} : VNew H v x → VsNew H vs xs → VsNew H (v :: vs) (x :: xs)
def tA (K : PySem.W.Frag) (m : MA) : TA := fun σ H Q => ∃ F fm vs fm', Rel K F H σ fm ∧ m fm = some (vs, fm') ∧
  ∀ xs F' H', Aft K σ F H fm F' H' fm' → VsRel K F' H' σ fm' vs xs → VsNew H vs xs → Q xs H'
theorem VsRel.mono (a : Aft K σ F H fm F' H' fm') : ∀ {vs : List SV} {xs : List V}, VsRel K F H σ fm vs xs → VsRel K F' H' σ fm' vs xs
  | _, _, .nil => .nil
  | _, _, .cons h r d => .cons (a.val h) (VsRel.mono a r) d
theorem VsRel.len : ∀ {vs : List SV} {xs : List V}, VsRel K F H σ fm vs xs → vs.length = xs.length
  | _, _, .nil => rfl
  | _, _, .cons _ r _ => by simp [r.len]
theorem VsNew.back {L L' : Addr → Prop} (e : Ext L F H L' F' H') : ∀ {vs : List SV} {xs : List V}, VsNew H' vs xs → VsNew H vs xs
  | _, _, .nil => .nil
  | _, _, .cons h r => .cons (h.back e) (VsNew.back e r)
theorem VsNew.get : ∀ {vs : List SV} {xs : List V} {j : Nat} {v : SV} {x : V}, VsNew H vs xs → vs[j]? = some v → xs[j]? = some x → VNew H v x
  | _, _, _, _, _, .nil, h, _ => by simp at h
  | _, _, 0, _, _, .cons h _, e1, e2 => by simp at e1 e2; subst e1 e2; exact h
  | _, _, j + 1, _, _, .cons _ r, e1, e2 => VsNew.get (j := j) r (by simpa using e1) (by simpa using e2)

structure AftS (K : PySem.W.Frag) (ro : List Nat) (σ : L2.St) (F H : Hp) (fm : Fm) (σ' : L2.St) (F' H' : Hp) (fm' : Fm) : Prop where
  ext : Ext (Live σ fm) F H (Live σ' fm') F' H'
  rel : Rel K F' H' σ' fm'
  pin : ∀ i ∈ ro, σ'[i]? = σ[i]?
theorem AftS.trans {ro : List Nat} {σ1 : L2.St} (a : AftS K ro σ F H fm σ1 F1 H1 fm1) (b : AftS K ro σ1 F1 H1 fm1 σ' F' H' fm') : AftS K ro σ F H fm σ' F' H' fm' :=
  ⟨a.ext.trans b.ext, b.rel, fun i hi => (b.pin i hi).trans (a.pin i hi)⟩
theorem AftS.refl {ro : List Nat} (R : Rel K F H σ fm) : AftS K ro σ F H fm σ F H fm := ⟨Ext.refl, R, fun _ _ => rfl⟩
theorem Aft.s {ro : List Nat} (a : Aft K σ F H fm F' H' fm') : AftS K ro σ F H fm σ F' H' fm' := ⟨a.ext, a.rel, fun _ _ => rfl⟩
def Out (K : PySem.W.Frag) (W : WX) (D : Ends) (H F' H' : Hp) (σ' : L2.St) (fm' : Fm) : Fl → Prop
  | .nx => D.nx σ' H'
  | .bk => D.bk σ' H'
  | .ct => D.ct σ' H'
  | .rt v => ∀ x, VRel K F' H' σ' fm' v x → VNew H v x → D.rt x H'
  | .ex x => ∀ cls d, XRel K F' H' x cls d → XNew H d → W cls d σ' H'
def tS (K : PySem.W.Frag) (W : WX) (ro : List Nat) (m : MS) : TS := fun D σ H => ∃ F fm fl fm', Rel K F H σ fm ∧ m fm = some (fl, fm') ∧
  ∀ σ' F' H', AftS K ro σ F H fm σ' F' H' fm' → Out K W D H F' H' σ' fm' fl
def tX (K : PySem.W.Frag) (W : WX) (m : ME) : TE := fun σ H Q => ∃ F fm v fm', Rel K F H σ fm ∧ m fm = some (v, fm') ∧
  (∀ x F' H', Aft K σ F H fm F' H' fm' → VRel K F' H' σ fm' v x → VNew H v x → Q x H') ∧ ∀ xc, v = .thr xc → ∀ cls d F' H', Aft K σ F H fm F' H' fm' → XRel K F' H' xc cls d → XNew H d → W cls d σ H'
end
def SE (X : Cx) (e : Expr) (m : ME) : Prop := PE X e (tE X.K m)
def ST (X : Cx) (e : Expr) (m : MT) : Prop := PT X e (tT X.K m)
def SW (X : Cx) (e : Expr) (m : MT) : Prop := PW X e (tT X.K m)
def SA (X : Cx) (es : List Expr) (m : MA) : Prop := PA X es (tA X.K m)
def SX (X : Cx) (e : Expr) (m : ME) : Prop := ∀ W, Takes X W → PE X e (tX X.K W m)
def SS (X : Cx) (ro : List Nat) (st : Stmt) (m : MS) : Prop := ∀ W, Takes X W → PS X st (tS X.K W ro m)
def SSs (X : Cx) (ro : List Nat) (sts : List Stmt) (m : MS) : Prop := ∀ W, Takes X W → PSs X sts (tS X.K W ro m)
section
variable {X : Cx} {e a b c : Expr} {es : List Expr} {pos p1 p2 : Pos} {st : Stmt} {sts : List Stmt} {ro : List Nat}
theorem pe_le {t t' : TE} (h : PE X e t) (k : ∀ σ H Q, t' σ H Q → t σ H Q) : PE X e t' := ⟨fun pins s σ H Q I q => h.run pins s σ H Q I (k σ H Q q)⟩
theorem pt_le {t t' : TT} (h : PT X e t) (k : ∀ σ H Q, t' σ H Q → t σ H Q) : PT X e t' := ⟨fun pins s σ H Q I q => h.run pins s σ H Q I (k σ H Q q)⟩
theorem pw_le {t t' : TT} (h : PW X e t) (k : ∀ σ H Q, t' σ H Q → t σ H Q) : PW X e t' := ⟨fun wh pins s σ H Q I q => h.run wh pins s σ H Q I (k σ H Q q)⟩
theorem pa_le {t t' : TA} (h : PA X es t) (k : ∀ σ H Q, t' σ H Q → t σ H Q) : PA X es t' := ⟨fun pos pins s σ H Q I q => h.run pos pins s σ H Q I (k σ H Q q)⟩
theorem ps_le {t t' : TS} (h : PS X st t) (k : ∀ D σ H, t' D σ H → t D σ H) : PS X st t' := ⟨fun pins s σ H D I q => h.run pins s σ H D I (k D σ H q)⟩
theorem pss_le {t t' : TS} (h : PSs X sts t) (k : ∀ D σ H, t' D σ H → t D σ H) : PSs X sts t' := ⟨fun pins s σ H D I q => h.run pins s σ H D I (k D σ H q)⟩

def mVar (i : Nat) : ME := fun fm => match fm[i]? with
  | some (some (.dat d)) => some (.dat d, fm)
  | some (some (.own _)) => some (.bor i, fm)
  | _ => none
theorem se_var (i : Nat) {x : Str} (hN : X.N[i]? = some x := by rfl) (hv : Vis X.env.scope x := by first | exact Or.inl rfl | exact Or.inr (Or.inl rfl) | exact Or.inr (Or.inr rfl)) (hd : (x == ("__debug__" : Str)) = false := by decide)
    (hcd : (x == ("__classdict__" : Str)) = false := by decide) : SE X (.Name x pos) (mVar i) := by
  refine pe_le (pe_var hN hv hd hcd) fun σ H Q ⟨F, fm, v, fm', R, em, q⟩ => ?_
  simp only [mVar] at em
  split at em
  · rename_i d hd
    cases em
    obtain ⟨y, hy, hD⟩ := R.dat i d hd
    exact ⟨y, hy, q y F H (Aft.refl R) hD VNew.dat⟩
  · rename_i c hd
    cases em
    obtain ⟨p, hy, hf, hc⟩ := R.own i c hd
    exact ⟨.ref p, hy, q _ F H (Aft.refl R) ⟨hy, _, hd⟩ trivial⟩
  · cases em
def mLit (d : PyData) : ME := fun fm => some (.dat d, fm)
theorem se_lit {v : V} {d : PyData} (h : PE X e (tC v)) (hd : ∀ K F, Dq K F v d) : SE X e (mLit d) :=
  pe_le h fun σ H Q ⟨F, fm, w, fm', R, em, q⟩ => by
    cases em
    exact q v F H (Aft.refl R) (hd _ _) VNew.dat
theorem se_int {i : Int} {j} : SE X (.Constant (.int i) j pos) (mLit (.int i)) := se_lit pe_int fun _ _ => .int i
theorem se_bl {i : Bool} {j} : SE X (.Constant (.bool i) j pos) (mLit (.bool i)) := se_lit pe_bl fun _ _ => .bl i
theorem se_non {j} : SE X (.Constant .none j pos) (mLit .none) := se_lit pe_non fun _ _ => .non
theorem se_str {i : Str} {j} : SE X (.Constant (.str i) j pos) (mLit (.str i)) := se_lit pe_str fun _ _ => .str i

abbrev F2 := SV → SV → Fm → Option (SV × Fm)
def Prim2 (K : PySem.W.Frag) (r : R2) (f : F2) : Prop := ∀ (F H : Hp) (σ : L2.St) (fm fm' : Fm) (va vb : SV) (x y : V) (v : SV), Rel K F H σ fm → VRel K F H σ fm va x → VRel K F H σ fm vb y → f va vb fm = some (v, fm') →
  ∀ Q : VK, (∀ z F' H', Aft K σ F H fm F' H' fm' → VRel K F' H' σ fm' v z → VNew H v z → Q z H') → r x y H Q
def m2 (f : F2) (ma mb : ME) : ME := fun fm => match ma fm with
  | some (va, fm1) => match mb fm1 with
    | some (vb, fm2) => f va vb fm2
    | none => none
  | none => none
theorem m2_inv {f : F2} {ma mb : ME} {fm fm' : Fm} {v : SV} (h : m2 f ma mb fm = some (v, fm')) : ∃ va fm1 vb fm2, ma fm = some (va, fm1) ∧ mb fm1 = some (vb, fm2) ∧ f va vb fm2 = some (v, fm') := by
  unfold m2 at h
  split at h
  · rename_i va fm1 h1
    split at h
    · rename_i vb fm2 h2
      exact ⟨va, fm1, vb, fm2, h1, h2, h⟩
    · cases h
  · cases h
theorem tE_2 {K : PySem.W.Frag} {r : R2} {f : F2} {ma mb : ME} (P : Prim2 K r f) {σ : L2.St} {H : Hp} {Q : VK} (h : tE K (m2 f ma mb) σ H Q) : tOp r (tE K ma) (tE K mb) σ H Q := by
  obtain ⟨F, fm, v, fm', R, em, q⟩ := h
  obtain ⟨va, fm1, vb, fm2, e1, e2, e3⟩ := m2_inv em
  refine ⟨F, fm, va, fm1, R, e1, fun x F1 H1 A1 V1 N1 => ⟨F1, fm1, vb, fm2, A1.rel, e2, fun y F2 H2 A2 V2 N2 => ?_⟩⟩
  refine P F2 H2 σ fm2 fm' va vb x y v A2.rel (A2.val V1) V2 e3 Q fun z F3 H3 A3 V3 N3 => ?_
  exact q z F3 H3 ((A1.trans A2).trans A3) V3 ((A1.trans A2).new N3)
theorem se_op {op : Operator} {r : R2} {f : F2} {ma mb : ME} (ho : OpR X (binaryOp op) r) (P : Prim2 X.K r f) (ha : SE X a ma) (hb : SE X b mb) : SE X (.BinOp a op b pos) (m2 f ma mb) :=
  pe_le (pe_op ho ha hb) fun σ H Q h => tE_2 P h
theorem se_cmp {op : CmpOp} {r : R2} {f : F2} {ma mb : ME} (ho : OpR X (compareOp op) r) (P : Prim2 X.K r f) (ha : SE X a ma) (hb : SE X b mb) (hm : behindInMarks op b = false) : SE X (.Compare a [op] [b] pos) (m2 f ma mb) :=
  pe_le (pe_cmpR ho ha hb hm) fun σ H Q h => tE_2 P h
theorem se_ix {r : R2} {f : F2} {ma mb : ME} (ho : IxR X r) (P : Prim2 X.K r f) (ha : SE X a ma) (hb : SE X b mb) (hs : PlainIx b := by intro _ _; rfl) : SE X (.Subscript a b pos) (m2 f ma mb) :=
  pe_le (pe_ix ho ha hb hs) fun σ H Q h => tE_2 P h

def mB (m : ME) : MT := fun fm => match m fm with
  | some (.dat (.bool b), fm1) => some (b, fm1)
  | _ => none
theorem mB_inv {m : ME} {fm fm' : Fm} {k : Bool} (h : mB m fm = some (k, fm')) : m fm = some (.dat (.bool k), fm') := by
  unfold mB at h
  split at h
  · rename_i h1; cases h; exact h1
  · cases h
theorem tT_B {K : PySem.W.Frag} {m : ME} {σ : L2.St} {H : Hp} {Q : Bool → Hp → Prop} (h : tT K (mB m) σ H Q) : tE K m σ H fun x H1 => ∃ k, x = .bl k ∧ Q k H1 := by
  obtain ⟨F, fm, k, fm', R, em, q⟩ := h
  refine ⟨F, fm, _, fm', R, mB_inv em, fun x F' H' A V N => ?_⟩
  cases (show Dq K F' x (.bool k) from V)
  exact ⟨k, rfl, q F' H' A⟩
theorem st_val {m : ME} (h : SE X e m) (he : ∀ whole, isTrue e X.env whole = (do let v ← whole; standAt e.pos; holding [v] (truthy v)) := by intro _; rfl) : ST X e (mB m) :=
  pt_le (pt_val h he) fun σ H Q h => tT_B h
theorem st_cmp {op : CmpOp} {r : R2} {f : F2} {ma mb : ME} (ho : OpR X (compareOp op) r) (P : Prim2 X.K r f) (ha : SE X a ma) (hb : SE X b mb) (hm : behindInMarks op b = false) : ST X (.Compare a [op] [b] pos) (mB (m2 f ma mb)) :=
  pt_le (pt_cmpR ho ha hb hm) fun σ H Q h => by
    obtain ⟨F, fm, v, fm', R, em, q⟩ := tT_B h
    exact tE_2 P ⟨F, fm, v, fm', R, em, q⟩
def mAndT (m n : MT) : MT := fun fm => match m fm with
  | some (true, fm1) => n fm1
  | some (false, fm1) => some (false, fm1)
  | none => none
def mOrT (m n : MT) : MT := fun fm => match m fm with
  | some (false, fm1) => n fm1
  | some (true, fm1) => some (true, fm1)
  | none => none
def mNotT (m : MT) : MT := fun fm => match m fm with
  | some (k, fm1) => some (!k, fm1)
  | none => none
theorem tT_and {K : PySem.W.Frag} {m n : MT} {σ : L2.St} {H : Hp} {Q : Bool → Hp → Prop} (h : tT K (mAndT m n) σ H Q) : tAnd (tT K m) (tT K n) σ H Q := by
  obtain ⟨F, fm, k, fm', R, em, q⟩ := h
  unfold mAndT at em
  split at em
  · rename_i fm1 e1
    refine ⟨F, fm, true, _, R, e1, fun F1 H1 A1 => ?_⟩
    refine iteT ?_
    exact ⟨F1, fm1, k, fm', A1.rel, em, fun F2 H2 A2 => q F2 H2 (A1.trans A2)⟩
  · rename_i fm1 e1
    cases em
    refine ⟨F, fm, false, _, R, e1, fun F1 H1 A1 => ?_⟩
    refine iteF ?_
    exact q F1 H1 A1
  · cases em
theorem tT_or {K : PySem.W.Frag} {m n : MT} {σ : L2.St} {H : Hp} {Q : Bool → Hp → Prop} (h : tT K (mOrT m n) σ H Q) : tOr (tT K m) (tT K n) σ H Q := by
  obtain ⟨F, fm, k, fm', R, em, q⟩ := h
  unfold mOrT at em
  split at em
  · rename_i fm1 e1
    refine ⟨F, fm, false, _, R, e1, fun F1 H1 A1 => ?_⟩
    refine iteF ?_
    exact ⟨F1, fm1, k, fm', A1.rel, em, fun F2 H2 A2 => q F2 H2 (A1.trans A2)⟩
  · rename_i fm1 e1
    cases em
    refine ⟨F, fm, true, _, R, e1, fun F1 H1 A1 => ?_⟩
    refine iteT ?_
    exact q F1 H1 A1
  · cases em
theorem sw_st {m : MT} (h : SW X e m) : ST X e m := PW.pt h
theorem sw_and1 {m : MT} (h : ST X a m) : SW X (.BoolOp .And [a] pos) m := pw_and1 h
theorem sw_or1 {m : MT} (h : ST X a m) : SW X (.BoolOp .Or [a] pos) m := pw_or1 h
theorem sw_and {m n : MT} (h : ST X a m) (hb : SW X (.BoolOp .And (b :: es) pos) n) : SW X (.BoolOp .And (a :: b :: es) pos) (mAndT m n) :=
  pw_le (pw_and h hb) fun σ H Q h => tT_and h
theorem sw_or {m n : MT} (h : ST X a m) (hb : SW X (.BoolOp .Or (b :: es) pos) n) : SW X (.BoolOp .Or (a :: b :: es) pos) (mOrT m n) :=
  pw_le (pw_or h hb) fun σ H Q h => tT_or h
theorem st_not {m : MT} (h : ST X a m) : ST X (.UnaryOp .Not a pos) (mNotT m) :=
  pt_le (pt_not h) fun σ H Q ⟨F, fm, k, fm', R, em, q⟩ => by
    unfold mNotT at em
    split at em
    · rename_i k' fm1 e1
      cases em
      exact ⟨F, fm, k', _, R, e1, q⟩
    · cases em
def mAndV (ma mb : ME) : ME := fun fm => match ma fm with
  | some (.dat (.bool true), fm1) => mb fm1
  | some (.dat (.bool false), fm1) => some (.dat (.bool false), fm1)
  | _ => none
def mOrV (ma mb : ME) : ME := fun fm => match ma fm with
  | some (.dat (.bool false), fm1) => mb fm1
  | some (.dat (.bool true), fm1) => some (.dat (.bool true), fm1)
  | _ => none
def mNotV (ma : ME) : ME := fun fm => match ma fm with
  | some (.dat (.bool k), fm1) => some (.dat (.bool (!k)), fm1)
  | _ => none
theorem se_one {op} {m : ME} (h : SE X a m) : SE X (.BoolOp op [a] pos) m := pe_one h
theorem se_and {ma mb : ME} (ha : SE X a ma) (hb : SE X (.BoolOp .And (b :: es) pos) mb) : SE X (.BoolOp .And (a :: b :: es) pos) (mAndV ma mb) :=
  pe_le (pe_and ha hb) fun σ H Q ⟨F, fm, v, fm', R, em, q⟩ => by
    unfold mAndV at em
    split at em
    · rename_i fm1 e1
      refine ⟨F, fm, _, _, R, e1, fun x F1 H1 A1 V1 N1 => ?_⟩
      cases (show Dq X.K F1 x (.bool true) from V1)
      refine ⟨true, rfl, ?_⟩
      refine iteT ?_
      exact ⟨F1, fm1, v, fm', A1.rel, em, fun y F2 H2 A2 V2 N2 => q y F2 H2 (A1.trans A2) V2 (A1.new N2)⟩
    · rename_i fm1 e1
      cases em
      refine ⟨F, fm, _, _, R, e1, fun x F1 H1 A1 V1 N1 => ?_⟩
      cases (show Dq X.K F1 x (.bool false) from V1)
      refine ⟨false, rfl, ?_⟩
      refine iteF ?_
      exact q _ F1 H1 A1 (.bl false) VNew.dat
    · cases em
theorem se_or {ma mb : ME} (ha : SE X a ma) (hb : SE X (.BoolOp .Or (b :: es) pos) mb) : SE X (.BoolOp .Or (a :: b :: es) pos) (mOrV ma mb) :=
  pe_le (pe_or ha hb) fun σ H Q ⟨F, fm, v, fm', R, em, q⟩ => by
    unfold mOrV at em
    split at em
    · rename_i fm1 e1
      refine ⟨F, fm, _, _, R, e1, fun x F1 H1 A1 V1 N1 => ?_⟩
      cases (show Dq X.K F1 x (.bool false) from V1)
      refine ⟨false, rfl, ?_⟩
      refine iteF ?_
      exact ⟨F1, fm1, v, fm', A1.rel, em, fun y F2 H2 A2 V2 N2 => q y F2 H2 (A1.trans A2) V2 (A1.new N2)⟩
    · rename_i fm1 e1
      cases em
      refine ⟨F, fm, _, _, R, e1, fun x F1 H1 A1 V1 N1 => ?_⟩
      cases (show Dq X.K F1 x (.bool true) from V1)
      refine ⟨true, rfl, ?_⟩
      refine iteT ?_
      exact q _ F1 H1 A1 (.bl true) VNew.dat
    · cases em
theorem se_not {ma : ME} (ha : SE X a ma) : SE X (.UnaryOp .Not a pos) (mNotV ma) :=
  pe_le (pe_not ha) fun σ H Q ⟨F, fm, v, fm', R, em, q⟩ => by
    unfold mNotV at em
    split at em
    · rename_i k fm1 e1
      cases em
      refine ⟨F, fm, _, _, R, e1, fun x F1 H1 A1 V1 N1 => ?_⟩
      cases (show Dq X.K F1 x (.bool k) from V1)
      exact ⟨k, rfl, q _ F1 H1 A1 (.bl _) VNew.dat⟩
    · cases em
def mIfE (mc : MT) (ma mb : ME) : ME := fun fm => match mc fm with
  | some (true, fm1) => ma fm1
  | some (false, fm1) => mb fm1
  | none => none
theorem se_ife {mc : MT} {ma mb : ME} (hc : ST X c mc) (ha : SE X a ma) (hb : SE X b mb) : SE X (.IfExp c a b pos) (mIfE mc ma mb) :=
  pe_le (pe_ifExp hc ha hb) fun σ H Q ⟨F, fm, v, fm', R, em, q⟩ => by
    unfold mIfE at em
    split at em
    · rename_i fm1 e1
      refine ⟨F, fm, _, _, R, e1, fun F1 H1 A1 => ?_⟩
      refine iteT ?_
      exact ⟨F1, fm1, v, fm', A1.rel, em, fun y F2 H2 A2 V2 N2 => q y F2 H2 (A1.trans A2) V2 (A1.new N2)⟩
    · rename_i fm1 e1
      refine ⟨F, fm, _, _, R, e1, fun F1 H1 A1 => ?_⟩
      refine iteF ?_
      exact ⟨F1, fm1, v, fm', A1.rel, em, fun y F2 H2 A2 V2 N2 => q y F2 H2 (A1.trans A2) V2 (A1.new N2)⟩
    · cases em

def mNil : MA := fun fm => some ([], fm)
def mCons (ma : ME) (mr : MA) : MA := fun fm => match ma fm with
  | some (v, fm1) => match mr fm1 with
    | some (vs, fm2) => some (v :: vs, fm2)
    | none => none
  | none => none
theorem sa_nil : SA X [] mNil := pa_le pa_nil fun σ H Q ⟨F, fm, vs, fm', R, em, q⟩ => by
  cases em
  exact q [] F H (Aft.refl R) .nil .nil
theorem sa_cons {ma : ME} {mr : MA} (ha : SE X e ma) (hr : SA X es mr) (hs : starEach (e :: es) X.env = (false, eval e X.env) :: starEach es X.env := by rfl) : SA X (e :: es) (mCons ma mr) :=
  pa_le (pa_cons ha hr hs) fun σ H Q ⟨F, fm, vs, fm', R, em, q⟩ => by
    unfold mCons at em
    split at em
    · rename_i v fm1 e1
      split at em
      · rename_i ws fm2 e2
        cases em
        refine ⟨F, fm, v, fm1, R, e1, fun x F1 H1 A1 V1 N1 => ⟨F1, fm1, ws, _, A1.rel, e2, fun xs F2 H2 A2 V2 N2 => ?_⟩⟩
        refine q (x :: xs) F2 H2 (A1.trans A2) (.cons (A2.val V1) V2 fun c ec j c' ej z => ?_) (.cons N1 (N2.back A1.ext))
        subst ec
        obtain ⟨p, rfl, hf, hc, hl⟩ := V1
        obtain ⟨o, ho⟩ := hc.some'
        have := N2.get ej z p rfl
        rw [ho] at this; cases this
      · cases em
    · cases em
theorem frzAll_ok {K : PySem.W.Frag} {L : Addr → Prop} {F0 H0 : Hp} {σ : L2.St} {H : Hp} : ∀ {vs : List SV} {xs : List V} {F : Hp} {fm fm' : Fm} {ds : List PyData}, Ext L F0 H0 (Live σ fm) F H → Rel K F H σ fm → VsRel K F H σ fm vs xs → VsNew H0 vs xs → frzAll vs fm = some (ds, fm') →
    ∃ F', Ext L F0 H0 (Live σ fm') F' H ∧ Same F F' ∧ Rel K F' H σ fm' ∧ DqAll K F' xs ds ∧ Keeps fm fm'
  | _, _, F, fm, fm', ds, E, R, .nil, _, h => by
    cases h
    exact ⟨F, E, Same.refl _, R, .nil, Keeps.refl _⟩
  | _, _, F, fm, fm', ds, E, R, .cons (v := v) (x := x) (vs := vs) (xs := xs) hv hr hd, .cons hn hnr, h => by
    simp only [frzAll] at h
    split at h
    · rename_i d fm1 e1
      split at h
      · rename_i ds' fm2 e2
        cases h
        obtain ⟨F1, E1, Ea, s1, R1, D1, k1, hnew⟩ := frz_ok E R hv hn e1
        have hr1 : VsRel K F1 H σ fm1 vs xs := by
          clear e2 hnr
          induction hr with
          | nil => exact .nil
          | cons h2 r2 d2 ih =>
            rename_i v2 x2 vs2 xs2
            refine .cons ?_ (ih fun c ec j c' ej => hd c ec (j + 1) c' (by simpa using ej)) d2
            cases v2 with
            | thr _ => exact h2.elim
            | dat d' => exact dp_mono s1 h2
            | bor i =>
              obtain ⟨h3, s, h4⟩ := h2
              exact ⟨h3, k1 i s h4⟩
            | fre c2 =>
              obtain ⟨p, rfl, hf, hc, hl⟩ := h2
              refine ⟨p, rfl, ?_, hc.mono s1 fun _ h => h, fun q => ?_⟩
              · cases q : F1 p with
                | none => rfl
                | some u =>
                  rcases hnew p u q with z | z | ⟨z, c, ec⟩
                  · rw [hf] at z; cases z
                  · exact absurd z hl
                  · exact absurd (by rw [z]; rfl) (hd c ec 0 c2 rfl)
              · rcases Ea.live p q with z | z
                · exact hl z
                · obtain ⟨o, ho⟩ := hc.some'
                  rw [ho] at z; cases z
        obtain ⟨F2, E2, s2, R2, D2, k2⟩ := frzAll_ok E1 R1 hr1 hnr e2
        exact ⟨F2, E2, s1.trans s2, R2, .cons (dp_mono s2 D1) D2, k1.trans k2⟩
      · cases h
    · cases h
theorem aft_frzAll {K : PySem.W.Frag} {F F1 H H1 : Hp} {σ : L2.St} {fm fm1 fm' : Fm} {vs : List SV} {xs : List V} {ds : List PyData} (A : Aft K σ F H fm F1 H1 fm1) (V : VsRel K F1 H1 σ fm1 vs xs) (N : VsNew H vs xs) (h : frzAll vs fm1 = some (ds, fm')) :
    ∃ F', Aft K σ F H fm F' H1 fm' ∧ DqAll K F' xs ds := by
  obtain ⟨F2, E2, s2, R2, D2, k2⟩ := frzAll_ok A.ext A.rel V N h
  exact ⟨F2, ⟨E2, A.kp.trans k2, R2⟩, D2⟩
def mDisp (mk : List PyData → SV) (m : MA) : ME := fun fm => match m fm with
  | some (vs, fm1) => match frzAll vs fm1 with
    | some (ds, fm2) => if ds.length ≤ sizeLine then some (mk ds, fm2) else none
    | none => none
  | none => none
def mLst : MA → ME := mDisp fun ds => .fre (.lst ds)
def mTup : MA → ME := mDisp fun ds => .dat (.tuple ds)
theorem mDisp_inv {mk : List PyData → SV} {m : MA} {fm fm' : Fm} {v : SV} (h : mDisp mk m fm = some (v, fm')) : ∃ vs fm1 ds, m fm = some (vs, fm1) ∧ frzAll vs fm1 = some (ds, fm') ∧ ds.length ≤ sizeLine ∧ v = mk ds := by
  unfold mDisp at h
  split at h
  · rename_i vs fm1 h1
    split at h
    · rename_i ds fm2 h2
      split at h
      · rename_i hl
        cases h
        exact ⟨vs, fm1, ds, h1, h2, hl, rfl⟩
      · cases h
    · cases h
  · cases h
theorem se_lst {m : MA} (h : SA X es m) : SE X (.List es pos) (mLst m) :=
  pe_le (pe_lst h) fun σ H Q ⟨F, fm, v, fm', R, em, q⟩ => by
    obtain ⟨vs, fm1, ds, e1, e2, hl, rfl⟩ := mDisp_inv em
    refine ⟨F, fm, vs, fm1, R, e1, fun xs F1 H1 A1 V1 N1 => ?_⟩
    obtain ⟨F2, A2, D2⟩ := aft_frzAll A1 V1 N1 e2
    refine ⟨by rw [dpAll_len D2]; exact hl, fun p hp => ?_⟩
    exact q _ F2 _ (A2.trans (Aft.lay A2.rel hp)) (Aft.newL A2.rel hp D2) (VNew.ref (A2.ext.grow p hp))
def rNewP (xs : List V) (H : Hp) (Q : VK) : Prop := ∀ (p : Addr) (o : Obj), H p = none → o.dict = none → Q (.ref p) (upd H p (.frz o (.tup xs)))
theorem inv_newP {pins : List (Addr × Obj)} {σ : L2.St} {H : Hp} {s : Shared} {xs : List V} {its : List Value} {t' : Nat} (I : Inv X pins σ H s) (r : Vals xs its) (hz : xs.length ≤ sizeLine) {o : Obj} (ho : o = { cls := .type "tuple", data := .seq its.toArray }) :
    Inv X pins σ (upd H s.heap.objs.size (.frz o (.tup xs))) { s with heap := s.heap.push o, toks := t' } := by
  subst ho
  refine I.laid (t' := t') (fun b u e => Heap.get?_push_of_some _ e) (Nat.le_refl _) ?_
  exact ⟨Heap.get?_push_size _ rfl, hz, its, r, ⟨_, Heap.get?_push_size _ rfl, rfl, _, rfl⟩⟩
def tTupP (t : TA) : TE := fun σ H Q => t σ H fun xs H1 => xs.length ≤ sizeLine ∧ rNewP xs H1 Q
theorem pe_tupP {t : TA} {x1} (h : PA X es t) : PE X (.Tuple es x1 pos) (tTupP t) := by
  refine ⟨fun pins s σ H Q I hq => ?_⟩
  refine wpAny_Tuple_spliced (thn (h.run pos pins s σ H _ I hq) fun us s1 out => ?_)
  obtain ⟨xs, H1, I1, r, z, q⟩ := out
  exact ⟨by rw [← r.length]; exact z, .ref s1.heap.objs.size, _, inv_newP (t' := s1.toks) I1 r z rfl, rfl, q _ _ (I1.hok.fresh (Nat.le_refl _)) rfl⟩
theorem se_tup {m : MA} {x1} (h : SA X es m) : SE X (.Tuple es x1 pos) (mTup m) :=
  pe_le (pe_tupP h) fun σ H Q ⟨F, fm, v, fm', R, em, q⟩ => by
    obtain ⟨vs, fm1, ds, e1, e2, hl, rfl⟩ := mDisp_inv em
    refine ⟨F, fm, vs, fm1, R, e1, fun xs F1 H1 A1 V1 N1 => ?_⟩
    obtain ⟨F2, A2, D2⟩ := aft_frzAll A1 V1 N1 e2
    refine ⟨by rw [dpAll_len D2]; exact hl, fun p o hp hd => ?_⟩
    exact q _ _ _ (A2.trans (Aft.layF A2.rel hp)) (Aft.newT A2.rel hp hd D2) VNew.dat
end
end Rf

namespace Rf
open PySem L2

section
variable {K : PySem.W.Frag} {F F' H H' : Hp} {σ σ' : L2.St} {fm fm' : Fm} {x : V} {i : Nat}
theorem get_set {α : Type} {l : List α} {i j : Nat} {a b : α} (h : (l.set i a)[j]? = some b) : (i = j ∧ b = a ∧ i < l.length) ∨ (i ≠ j ∧ l[j]? = some b) := by
  by_cases e : i = j
  · subst e
    have hl : i < l.length := by
      obtain ⟨hl, _⟩ := List.getElem?_eq_some_iff.mp h
      simpa using hl
    rw [List.getElem?_set_self hl] at h
    exact .inl ⟨rfl, (Option.some.inj h).symm, hl⟩
  · rw [List.getElem?_set_ne e] at h
    exact .inr ⟨e, h⟩
theorem Rel.setDat {d : PyData} (R : Rel K F H σ fm) (hd : Dq K F x d) : Rel K F H (σ.set i (some x)) (fm.set i (some (.dat d))) := by
  have hl := R.len
  refine ⟨R.sub, by rw [List.length_set, List.length_set]; exact hl, fun j d' h => ?_, fun j c h => ?_, fun j k c c' p hne h1 h2 h3 => ?_⟩
  · rcases get_set h with ⟨rfl, e, hi⟩ | ⟨ne, h⟩
    · cases e
      exact ⟨x, List.getElem?_set_self (by rw [← hl]; exact hi), hd⟩
    · rw [List.getElem?_set_ne ne]; exact R.dat j d' h
  · rcases get_set h with ⟨rfl, e, hi⟩ | ⟨ne, h⟩
    · cases e
    · rw [List.getElem?_set_ne ne]; exact R.own j c h
  · rcases get_set h1 with ⟨rfl, e, hi⟩ | ⟨ne, h1⟩
    · cases e
    · rcases get_set h2 with ⟨rfl, e, hi⟩ | ⟨ne2, h2⟩
      · cases e
      · rw [List.getElem?_set_ne ne] at h3
        rw [List.getElem?_set_ne ne2]
        exact R.apart j k c c' p hne h1 h2 h3
theorem Rel.setOwn {c : Cell} {p : Addr} (R : Rel K F H σ fm) (hf : F p = none) (hc : CRel K F H p c) (hn : ¬ Live σ fm p) : Rel K F H (σ.set i (some (.ref p))) (fm.set i (some (.own c))) := by
  have hl := R.len
  refine ⟨R.sub, by rw [List.length_set, List.length_set]; exact hl, fun j d' h => ?_, fun j c' h => ?_, fun j k c1 c2 q hne h1 h2 h3 => ?_⟩
  · rcases get_set h with ⟨rfl, e, hi⟩ | ⟨ne, h⟩
    · cases e
    · rw [List.getElem?_set_ne ne]; exact R.dat j d' h
  · rcases get_set h with ⟨rfl, e, hi⟩ | ⟨ne, h⟩
    · cases e
      exact ⟨p, List.getElem?_set_self (by rw [← hl]; exact hi), hf, hc⟩
    · rw [List.getElem?_set_ne ne]; exact R.own j c' h
  · rcases get_set h1 with ⟨rfl, e, hi⟩ | ⟨ne, h1⟩
    · rcases get_set h2 with ⟨rfl, e2, hi2⟩ | ⟨ne2, h2⟩
      · exact absurd rfl hne
      · rw [List.getElem?_set_self (by rw [← hl]; exact hi)] at h3
        cases h3
        rw [List.getElem?_set_ne ne2]
        exact fun z => hn ⟨k, c2, h2, z⟩
    · rw [List.getElem?_set_ne ne] at h3
      rcases get_set h2 with ⟨rfl, e2, hi2⟩ | ⟨ne2, h2⟩
      · rw [List.getElem?_set_self (by rw [← hl]; exact hi2)]
        intro z
        cases z
        exact hn ⟨j, c1, h1, h3⟩
      · rw [List.getElem?_set_ne ne2]
        exact R.apart j k c1 c2 q hne h1 h2 h3
theorem live_setDat {d : PyData} {a : Addr} (h : Live (σ.set i (some x)) (fm.set i (some (.dat d))) a) : Live σ fm a := by
  obtain ⟨j, c, h1, h2⟩ := h
  rcases get_set h1 with ⟨rfl, e, _⟩ | ⟨ne, h1⟩
  · cases e
  · rw [List.getElem?_set_ne ne] at h2
    exact ⟨j, c, h1, h2⟩
theorem live_setOwn {c : Cell} {p a : Addr} (h : Live (σ.set i (some (.ref p))) (fm.set i (some (.own c))) a) : Live σ fm a ∨ a = p := by
  obtain ⟨j, c', h1, h2⟩ := h
  rcases get_set h1 with ⟨rfl, e, _⟩ | ⟨ne, h1⟩
  · rcases get_set h2 with ⟨_, e2, _⟩ | ⟨ne, _⟩
    · cases e2; exact .inr rfl
    · exact absurd rfl ne
  · rw [List.getElem?_set_ne ne] at h2
    exact .inl ⟨j, c', h1, h2⟩
def sto (i : Nat) (v : SV) (fm : Fm) : Option Fm := match v with
  | .dat d => some (fm.set i (some (.dat d)))
  | .fre c => some (fm.set i (some (.own c)))
  | .bor j => match frz (.bor j) fm with
    | some (d, fm1) => some (fm1.set i (some (.dat d)))
    | none => none
  | .thr _ => none
theorem sto_ok {ro : List Nat} {F0 H0 : Hp} {fm0 : Fm} {v : SV} (hi : i ∉ ro) (A : Aft K σ F0 H0 fm0 F H fm) (V : VRel K F H σ fm v x) (N : VNew H0 v x) (h : sto i v fm = some fm') :
    ∃ F', AftS K ro σ F0 H0 fm0 (σ.set i (some x)) F' H fm' := by
  have pin : ∀ j ∈ ro, (σ.set i (some x))[j]? = σ[j]? := fun j hj => List.getElem?_set_ne fun e => hi (by rw [e]; exact hj)
  cases v with
  | thr _ => exact V.elim
  | dat d =>
    cases h
    exact ⟨F, ⟨A.ext.same, A.ext.keep, A.ext.new, fun a q => A.ext.live a (live_setDat q), A.ext.grow⟩, A.rel.setDat V, pin⟩
  | fre c =>
    cases h
    obtain ⟨p, rfl, hf, hc, hn⟩ := V
    refine ⟨F, ⟨A.ext.same, A.ext.keep, A.ext.new, fun a q => ?_, A.ext.grow⟩, A.rel.setOwn hf hc hn, pin⟩
    rcases live_setOwn q with q | rfl
    · exact A.ext.live a q
    · exact .inr (N _ rfl)
  | bor j =>
    simp only [sto] at h
    split at h
    · rename_i d fm1 e1
      cases h
      obtain ⟨F1, E1, Ea, s1, R1, D1, k1, hnew⟩ := frz_ok A.ext A.rel V N e1
      exact ⟨F1, ⟨E1.same, E1.keep, E1.new, fun a q => E1.live a (live_setDat q), E1.grow⟩, R1.setDat D1, pin⟩
    · cases h
end

abbrev RLT := Hp → V → PyData → Prop
def Dw (K : PySem.W.Frag) : RLT := fun F v d => Dq K F v d ∨ ∃ a xs ds, v = .ref a ∧ d = .tuple ds ∧ SqT K F a xs ∧ DqAll K F xs ds
abbrev MG := PyData → Fm → Option Fm
def tG (K : PySem.W.Frag) (Rl : RLT) (ro : List Nat) (m : MG) : TG := fun x σ H Q => ∃ F fm d fm', Rel K F H σ fm ∧ Rl F x d ∧ m d fm = some fm' ∧ ∀ σ' F' H', AftS K ro σ F H fm σ' F' H' fm' → Q σ' H'
def SG (X : Cx) (Rl : RLT) (ro : List Nat) (tg : Expr) (m : MG) : Prop := PG X tg (tG X.K Rl ro m)
abbrev MGs := List PyData → Fm → Option Fm
def tGs (K : PySem.W.Frag) (ro : List Nat) (m : MGs) : TGs := fun xs σ H Q => ∃ F fm ds fm', Rel K F H σ fm ∧ DqAll K F xs ds ∧ m ds fm = some fm' ∧ ∀ σ' F' H', AftS K ro σ F H fm σ' F' H' fm' → Q σ' H'
def SGs (X : Cx) (ro : List Nat) (tgs : List Expr) (m : MGs) : Prop := PGs X tgs (tGs X.K ro m)
section
variable {X : Cx} {e a b c tg : Expr} {es : List Expr} {pos p1 p2 : Pos} {st : Stmt} {sts : List Stmt} {ro : List Nat}
theorem pg_le {t t' : TG} (h : PG X tg t) (k : ∀ x σ H Q, t' x σ H Q → t x σ H Q) : PG X tg t' := ⟨fun pins s σ H v u Q I r q => h.run pins s σ H v u Q I r (k v σ H Q q)⟩
theorem pgs_le {t t' : TGs} (h : PGs X es t) (k : ∀ x σ H Q, t' x σ H Q → t x σ H Q) : PGs X es t' := ⟨fun pins s σ H v u Q I r q => h.run pins s σ H v u Q I r (k v σ H Q q)⟩
theorem sg_weak {m : MG} (h : SG X (Dw X.K) ro tg m) : SG X (Dq X.K) ro tg m := pg_le h fun x σ H Q ⟨F, fm, d, fm', R, D, em, q⟩ => ⟨F, fm, d, fm', R, .inl D, em, q⟩
def gSet (i : Nat) : MG := fun d fm => some (fm.set i (some (.dat d)))
theorem sg_name {i : Nat} {x : Str} (hN : X.N.Nodup) (hro : i ∉ ro) (hi : X.N[i]? = some x) (hx : Loc X.env.scope x) (hf : X.fn x = true ∨ X.env.scope.names.lookup x = some .local) : SG X (Dq X.K) ro (.Name x pos) (gSet i) :=
  pg_le (pg_name hN hi hx hf) fun x σ H Q ⟨F, fm, d, fm', R, D, em, q⟩ => by
    cases em
    obtain ⟨F', A⟩ := sto_ok (v := .dat d) hro (Aft.refl R) D VNew.dat rfl
    exact q _ F' H A
def gsNil : MGs := fun ds fm => match ds with
  | [] => some fm
  | _ => none
def gsCons (g : MG) (r : MGs) : MGs := fun ds fm => match ds with
  | d :: ds => match g d fm with
    | some fm1 => r ds fm1
    | none => none
  | [] => none
theorem sgs_nil : SGs X ro [] gsNil := pgs_le pgs_nil fun xs σ H Q ⟨F, fm, ds, fm', R, D, em, q⟩ => by
  cases D with
  | nil =>
    cases em
    exact ⟨rfl, q σ F H (AftS.refl R)⟩
  | cons _ _ => cases em
theorem sgs_cons {g : MG} {r : MGs} (h1 : SG X (Dq X.K) ro e g) (h2 : SGs X ro es r) (hs : (assignEach (e :: es) X.env).map (·.2) = assign e X.env :: (assignEach es X.env).map (·.2) := by rfl) : SGs X ro (e :: es) (gsCons g r) :=
  pgs_le (pgs_cons h1 h2 hs) fun xs σ H Q ⟨F, fm, ds, fm', R, D, em, q⟩ => by
    cases D with
    | nil => cases em
    | cons D1 D2 =>
      simp only [gsCons] at em
      split at em
      · rename_i fm1 e1
        refine ⟨_, _, rfl, F, fm, _, fm1, R, D1, e1, fun σ1 F1 H1 A1 => ⟨F1, fm1, _, fm', A1.rel, dpAll_mono A1.ext.same D2, em, fun σ2 F2 H2 A2 => q σ2 F2 H2 (A1.trans A2)⟩⟩
      · cases em
def gTupD (n : Nat) (r : MGs) : MG := fun d fm => match d with
  | .tuple ds => if ds.length = n then r ds fm else none
  | .list ds => if ds.length = n then r ds fm else none
  | _ => none
theorem pg_either {tg : Expr} {t t' : TG} (h : PG X tg t) (h' : PG X tg t') : PG X tg (fun v σ H Q => t v σ H Q ∨ t' v σ H Q) :=
  ⟨fun pins s σ H v u Q I r hw => hw.elim (fun q => h.run pins s σ H v u Q I r q) fun q => h'.run pins s σ H v u Q I r q⟩
theorem Dw.lst {K : PySem.W.Frag} {F : Hp} {x : V} {ds : List PyData} (h : Dw K F x (.list ds)) : ∃ a xs, x = .ref a ∧ SqL K F a xs ∧ DqAll K F xs ds := by
  rcases h with h | ⟨a, xs, ds', rfl, e, h1, h2⟩
  · cases h with
    | lst s r => exact ⟨_, _, rfl, s, r⟩
  · cases e
theorem Dw.tup {K : PySem.W.Frag} {F : Hp} {x : V} {ds : List PyData} (h : Dw K F x (.tuple ds)) : ∃ a xs, x = .ref a ∧ SqT K F a xs ∧ DqAll K F xs ds := by
  rcases h with h | ⟨a, xs, ds', rfl, e, h1, h2⟩
  · cases h with
    | tup s r => exact ⟨_, _, rfl, s.1, r⟩
  · cases e; exact ⟨a, xs, rfl, h1, h2⟩
theorem sg_tup {k : Nat} {r : MGs} {n : Nat} (hc : X.calm = true) (h : SGs X ro es r) (hn : (assignEach es X.env).length = n := by rfl) (hst : (assignEach es X.env).findIdx? (·.1) = none := by rfl) : SG X (Dw X.K) ro (.Tuple es k pos) (gTupD n r) :=
  pg_le (pg_either (pg_tup hc h hn hst) (pg_unl hc h hn hst)) fun x σ H Q ⟨F, fm, d, fm', R, D, em, q⟩ => by
    unfold gTupD at em
    split at em
    · rename_i ds
      split at em
      · rename_i hl
        obtain ⟨a, xs, rfl, s, r⟩ := D.tup
        exact .inl ⟨_, _, rfl, sqT_mono R.sub s, (dpAll_len r).trans hl, F, fm, ds, fm', R, r, em, q⟩
      · cases em
    · rename_i ds
      split at em
      · rename_i hl
        obtain ⟨a, xs, rfl, s, r⟩ := D.lst
        exact .inr ⟨_, _, rfl, R.sub.seq s, (dpAll_len r).trans hl, F, fm, ds, fm', R, r, em, q⟩
      · cases em
    · cases em

theorem sx_of {m : ME} (h : SE X e m) : SX X e m := fun W _ => pe_le h fun σ H Q ⟨F, fm, v, fm', R, em, q, _⟩ => ⟨F, fm, v, fm', R, em, q⟩
def mSet (i : Nat) (m : ME) : MS := fun fm => match m fm with
  | some (.thr x, fm1) => some (.ex x, fm1)
  | some (v, fm1) => match sto i v fm1 with
    | some fm2 => some (.nx, fm2)
    | none => none
  | none => none
theorem tS_set {K : PySem.W.Frag} {W : WX} {i : Nat} {m : ME} (hro : i ∉ ro) {D : Ends} {σ : L2.St} {H : Hp} (h : tS K W ro (mSet i m) D σ H) : tAsg (tX K W m) (gName i) D σ H := by
  obtain ⟨F, fm, fl, fm', R, em, q⟩ := h
  unfold mSet at em
  split at em
  · rename_i x fm1 e1
    cases em
    exact ⟨F, fm, _, _, R, e1, fun x F1 H1 A1 V1 N1 => V1.elim, fun xc ex cls d F1 H1 A1 xr xn => by cases ex; exact q σ F1 H1 A1.s cls d xr xn⟩
  · rename_i v fm1 hnt e1
    split at em
    · rename_i fm2 e2
      cases em
      refine ⟨F, fm, v, fm1, R, e1, fun x F1 H1 A1 V1 N1 => ?_, fun xc ex => absurd ex (hnt xc)⟩
      obtain ⟨F2, A2⟩ := sto_ok hro A1 V1 N1 e2
      exact q _ F2 H1 A2
    · cases em
  · cases em
theorem ss_set {i : Nat} {x : Str} {m : ME} {pos' : Pos} (hN : X.N.Nodup) (hro : i ∉ ro) (hi : X.N[i]? = some x) (hx : Loc X.env.scope x) (he : SX X e m) (hs : swapsWith e (some (.Name x pos')) pos.line X.env = pure false)
    (hf : X.fn x = true ∨ X.env.scope.names.lookup x = some .local) : SS X ro (.Assign [.Name x pos'] e pos) (mSet i m) :=
  fun W tk => ps_le (ps_set hN hi hx (he W tk) hs hf) fun D σ H h => tS_set hro h
def mAsg (g : MG) (m : ME) : MS := fun fm => match m fm with
  | some (.thr x, fm1) => some (.ex x, fm1)
  | some (v, fm1) => match frz v fm1 with
    | some (d, fm2) => match g d fm2 with
      | some fm3 => some (.nx, fm3)
      | none => none
    | none => none
  | none => none
theorem ss_asg {g : MG} {m : ME} (he : SX X e m) (hg : SG X (Dq X.K) ro tg g) (hs : swapsWithSole [tg] e pos.line X.env = pure false) (hw : swappedStores [tg] e X.env = pure none)
    (h1 : (assignEach [tg] X.env).map (·.2) = [assign tg X.env] := by rfl) : SS X ro (.Assign [tg] e pos) (mAsg g m) :=
  fun W tk => ps_le (ps_asg (he W tk) hg hs hw h1) fun D σ H ⟨F, fm, fl, fm', R, em, q⟩ => by
    unfold mAsg at em
    split at em
    · rename_i x fm1 e1
      cases em
      exact ⟨F, fm, _, _, R, e1, fun x F1 H1 A1 V1 N1 => V1.elim, fun xc ex cls d F1 H1 A1 xr xn => by cases ex; exact q σ F1 H1 A1.s cls d xr xn⟩
    · rename_i v fm1 hnt e1
      split at em
      · rename_i d fm2 e2
        split at em
        · rename_i fm3 e3
          cases em
          refine ⟨F, fm, v, fm1, R, e1, fun x F1 H1 A1 V1 N1 => ?_, fun xc ex => absurd ex (hnt xc)⟩
          obtain ⟨F2, E2, Ea, s2, R2, D2, k2, hnew⟩ := frz_ok A1.ext A1.rel V1 N1 e2
          refine ⟨F2, fm2, d, _, R2, D2, e3, fun σ3 F3 H3 A3 => q σ3 F3 H3 ?_⟩
          exact AftS.trans ⟨E2, R2, fun _ _ => rfl⟩ A3
        · cases em
      · cases em
    · cases em
end

section
variable {K : PySem.W.Frag} {F F' F1 H H' : Hp} {σ σ' : L2.St} {fm fm' fm1 : Fm} {x : V} {i : Nat} {ro : List Nat}
def res1 : SV → Fm → Option (SV × Fm)
  | .bor j, fm => match frz (.bor j) fm with
    | some (d, fm1) => some (.dat d, fm1)
    | none => none
  | .dat d, fm => some (.dat d, fm)
  | .fre c, fm => some (.fre c, fm)
  | .thr _, _ => none
def resAll : List SV → Fm → Option (List SV × Fm)
  | [], fm => some ([], fm)
  | v :: vs, fm => match res1 v fm with
    | some (w, fm1) => match resAll vs fm1 with
      | some (ws, fm2) => some (w :: ws, fm2)
      | none => none
    | none => none
theorem VsRel.frz (s1 : Same F F1) (k1 : Keeps fm fm1) (hnew : ∀ a o, F1 a = some o → F a = some o ∨ Live σ fm a) (hlive : ∀ a, Live σ fm1 a → Live σ fm a) : ∀ {vs : List SV} {xs : List V}, VsRel K F H σ fm vs xs → VsRel K F1 H σ fm1 vs xs
  | _, _, .nil => .nil
  | _, _, .cons (v := v2) h2 r2 d2 => by
    refine .cons ?_ (VsRel.frz s1 k1 hnew hlive r2) d2
    cases v2 with
    | thr _ => exact h2.elim
    | dat d' => exact dp_mono s1 h2
    | bor i =>
      obtain ⟨h3, s, h4⟩ := h2
      exact ⟨h3, k1 i s h4⟩
    | fre c2 =>
      obtain ⟨p, rfl, hf, hc, hl⟩ := h2
      refine ⟨p, rfl, ?_, hc.mono s1 fun _ h => h, fun q => hl (hlive p q)⟩
      cases q : F1 p with
      | none => rfl
      | some u =>
        rcases hnew p u q with z | z
        · rw [hf] at z; cases z
        · exact absurd z hl
theorem resAll_ok {F0 H0 : Hp} {fm0 : Fm} : ∀ {vs ws : List SV} {xs : List V} {F : Hp} {fm fm' : Fm}, Aft K σ F0 H0 fm0 F H fm → VsRel K F H σ fm vs xs → VsNew H0 vs xs → resAll vs fm = some (ws, fm') →
    ∃ F', Aft K σ F0 H0 fm0 F' H fm' ∧ Same F F' ∧ Keeps fm fm' ∧ (∀ a o, F' a = some o → F a = some o ∨ Live σ fm a) ∧ (∀ a, Live σ fm' a → Live σ fm a) ∧ VsRel K F' H σ fm' ws xs ∧ VsNew H0 ws xs ∧ ∀ j, SV.bor j ∉ ws
  | _, _, _, F, fm, fm', A, .nil, _, h => by
    cases h
    exact ⟨F, A, Same.refl _, Keeps.refl _, fun _ _ h => .inl h, fun _ h => h, .nil, .nil, by simp⟩
  | _, ws, _, F, fm, fm', A, .cons (v := v) (x := x) (vs := vs) (xs := xs) hv hr hd, .cons hn hnr, h => by
    simp only [resAll] at h
    split at h
    · rename_i w fm1 e1
      split at h
      · rename_i ws' fm2 e2
        cases h
        cases v with
        | thr _ => exact hv.elim
        | bor j =>
          simp only [res1] at e1
          split at e1
          · rename_i d fm3 e3
            cases e1
            obtain ⟨F1, E1, Ea, s1, R1, D1, k1, hnew⟩ := frz_ok A.ext A.rel hv hn e3
            have hnew' : ∀ a o, F1 a = some o → F a = some o ∨ Live σ fm a := fun a o q => by
              rcases hnew a o q with z | z | ⟨_, c, ec⟩
              · exact .inl z
              · exact .inr z
              · cases ec
            have hlv : ∀ a, Live σ fm1 a → Live σ fm a := fun a q => by
              rcases Ea.live a q with z | z
              · exact z
              · obtain ⟨i, c, h1, h2⟩ := q
                obtain ⟨p, h3, _, h4⟩ := R1.own i c h1
                rw [h2] at h3; cases h3
                obtain ⟨o, ho⟩ := h4.some'
                rw [ho] at z; cases z
            obtain ⟨F2, A2, s2, k2, n2, l2, V2, N2, b2⟩ := resAll_ok ⟨E1, A.kp.trans k1, R1⟩ (VsRel.frz s1 k1 hnew' hlv hr) hnr e2
            refine ⟨F2, A2, s1.trans s2, k1.trans k2, fun a o q => ?_, fun a q => hlv a (l2 a q), .cons (dp_mono s2 D1) V2 (fun c ec => by cases ec), .cons VNew.dat N2, fun j => ?_⟩
            · rcases n2 a o q with z | z
              · exact hnew' a o z
              · exact .inr (hlv a z)
            · simp only [List.mem_cons, not_or]
              exact ⟨(fun z => by cases z), b2 j⟩
          · cases e1
        | dat d =>
          cases e1
          obtain ⟨F2, A2, s2, k2, n2, l2, V2, N2, b2⟩ := resAll_ok A hr hnr e2
          refine ⟨F2, A2, s2, k2, n2, l2, .cons (dp_mono s2 hv) V2 fun c ec => (by cases ec), .cons VNew.dat N2, fun j => ?_⟩
          simp only [List.mem_cons, not_or]
          exact ⟨(fun z => by cases z), b2 j⟩
        | fre c =>
          cases e1
          obtain ⟨F2, A2, s2, k2, n2, l2, V2, N2, b2⟩ := resAll_ok A hr hnr e2
          have hv2 : VRel K F2 H σ fm' (.fre c) x := by
            cases VsRel.frz (vs := [.fre c]) (xs := [x]) s2 k2 n2 l2 (.cons hv .nil fun c ec j c' ej => by simp at ej) with
            | cons h _ _ => exact h
          refine ⟨F2, A2, s2, k2, n2, l2, .cons hv2 V2 fun c1 ec j c' ej => ?_, .cons hn N2, fun j => ?_⟩
          · -- the new ones of ws' stood so in vs
            have : ∀ {vs ws : List SV} {fm fm' : Fm}, resAll vs fm = some (ws, fm') → ∀ (j : Nat) (c : Cell), ws[j]? = some (.fre c) → vs[j]? = some (.fre c) := by
              intro vs
              induction vs with
              | nil => intro ws fm fm' h j c e; cases h; simp at e
              | cons v vs ih =>
                intro ws fm fm' h j c e
                simp only [resAll] at h
                split at h
                · rename_i w fm1 e1
                  split at h
                  · rename_i ws' fm2 e2
                    cases h
                    cases j with
                    | zero =>
                      simp at e
                      subst e
                      cases v with
                      | bor k => simp only [res1] at e1; split at e1 <;> cases e1
                      | dat d => cases e1
                      | fre c' => cases e1; rfl
                      | thr _ => cases e1
                    | succ j => simpa using ih e2 j c (by simpa using e)
                  · cases h
                · cases h
            exact hd c rfl j c' (this e2 j c' ej)
          · simp only [List.mem_cons, not_or]
            exact ⟨(fun z => by cases z), b2 j⟩
      · cases h
    · cases h
theorem sto_ok2 {σ0 : L2.St} {F0 H0 : Hp} {fm0 : Fm} {v : SV} (hi : i ∉ ro) (A : AftS K ro σ0 F0 H0 fm0 σ F H fm) (V : VRel K F H σ fm v x) (N : VNew H0 v x) (hb : ∀ j, v ≠ .bor j) (h : sto i v fm = some fm') :
    AftS K ro σ0 F0 H0 fm0 (σ.set i (some x)) F H fm' := by
  have pin : ∀ j ∈ ro, (σ.set i (some x))[j]? = σ0[j]? := fun j hj => (List.getElem?_set_ne fun e => hi (by rw [e]; exact hj)).trans (A.pin j hj)
  cases v with
  | dat d =>
    cases h
    exact ⟨⟨A.ext.same, A.ext.keep, A.ext.new, fun a q => A.ext.live a (live_setDat q), A.ext.grow⟩, A.rel.setDat V, pin⟩
  | fre c =>
    cases h
    obtain ⟨p, rfl, hf, hc, hn⟩ := V
    refine ⟨⟨A.ext.same, A.ext.keep, A.ext.new, fun a q => ?_, A.ext.grow⟩, A.rel.setOwn hf hc hn, pin⟩
    rcases live_setOwn q with q | rfl
    · exact A.ext.live a q
    · exact .inr (N _ rfl)
  | bor j => exact absurd rfl (hb j)
  | thr _ => exact V.elim
def stoAll : List Nat → List SV → Fm → Option Fm
  | [], [], fm => some fm
  | i :: is, v :: vs, fm => match sto i v fm with
    | some fm1 => stoAll is vs fm1
    | none => none
  | _, _, _ => none
def setAll (σ : L2.St) : List Nat → List V → L2.St
  | i :: is, x :: xs => setAll (σ.set i (some x)) is xs
  | _, _ => σ
theorem val_sto {v w : SV} {y : V} (V : VRel K F H σ fm v x) (h : sto i v fm = some fm') (hb : ∀ j, v ≠ .bor j) (hw : ∀ j, w ≠ .bor j) (W : VRel K F H σ fm w y) (hd : ∀ c, v = .fre c → ∀ c', w = .fre c' → y ≠ x) : VRel K F H (σ.set i (some x)) fm' w y := by
  cases w with
  | thr _ => exact W.elim
  | bor j => exact absurd rfl (hw j)
  | dat d => exact W
  | fre c =>
    obtain ⟨p, rfl, hf, hc, hn⟩ := W
    refine ⟨p, rfl, hf, hc, fun z => ?_⟩
    cases v with
    | thr _ => exact V.elim
    | dat d => cases h; exact hn (live_setDat z)
    | bor j => exact absurd rfl (hb j)
    | fre c' =>
      cases h
      obtain ⟨p', rfl, _⟩ := V
      rcases live_setOwn z with z | z
      · exact hn z
      · exact hd _ rfl _ rfl (by rw [z])
theorem vals_sto {v : SV} (hV : VRel K F H σ fm v x) (h : sto i v fm = some fm') (hb : ∀ j, v ≠ .bor j) : ∀ {ws : List SV} {ys : List V}, (∀ j, SV.bor j ∉ ws) → VsRel K F H σ fm ws ys → (∀ c, v = .fre c → ∀ (j : Nat) (c' : Cell), ws[j]? = some (.fre c') → ys[j]? ≠ some x) → VsRel K F H (σ.set i (some x)) fm' ws ys
  | _, _, _, .nil, _ => .nil
  | _, _, hw, .cons W r d, hd => by
    refine .cons (val_sto hV h hb (fun j e => hw j (by rw [e]; exact List.mem_cons_self)) W fun c ec c' ec' ey => ?_) (vals_sto hV h hb (fun j z => hw j (List.mem_cons_of_mem _ z)) r fun c ec j c' ej => hd c ec (j + 1) c' (by simpa using ej)) d
    exact hd c ec 0 c' (by rw [ec']; rfl) (by rw [ey]; rfl)
theorem stoAll_ok {σ0 : L2.St} {F0 H0 : Hp} {fm0 : Fm} : ∀ {is : List Nat} {vs : List SV} {xs : List V} {σ : L2.St} {fm fm' : Fm}, (∀ i ∈ is, i ∉ ro) → AftS K ro σ0 F0 H0 fm0 σ F H fm → VsRel K F H σ fm vs xs → VsNew H0 vs xs → (∀ j, SV.bor j ∉ vs) → stoAll is vs fm = some fm' →
    AftS K ro σ0 F0 H0 fm0 (setAll σ is xs) F H fm' ∧ is.length = xs.length
  | [], _, _, σ, fm, fm', hi, A, .nil, _, _, h => by cases h; exact ⟨A, rfl⟩
  | [], _, _, σ, fm, fm', hi, A, .cons _ _ _, _, _, h => by cases h
  | i :: is, _, _, σ, fm, fm', hi, A, .nil, _, _, h => by cases h
  | i :: is, _, _, σ, fm, fm', hi, A, .cons (v := v) hv hr hd, .cons hn hnr, hb, h => by
    simp only [stoAll] at h
    split at h
    · rename_i fm1 e1
      have hbv : ∀ j, v ≠ .bor j := fun j e => hb j (by rw [e]; exact List.mem_cons_self)
      have hbr : ∀ j, SV.bor j ∉ _ := fun j z => hb j (List.mem_cons_of_mem _ z)
      have A1 := sto_ok2 (hi i List.mem_cons_self) A hv hn hbv e1
      obtain ⟨A2, hl⟩ := stoAll_ok (fun j hj => hi j (List.mem_cons_of_mem _ hj)) A1 (vals_sto hv e1 hbv hbr hr hd) hnr hbr h
      exact ⟨A2, by simp [hl]⟩
    · cases h
end

section
variable {X : Cx} {e a b c tg : Expr} {es : List Expr} {pos p1 p2 : Pos} {st : Stmt} {sts : List Stmt} {ro : List Nat}
def mPar (is : List Nat) (m : MA) : MS := fun fm => match m fm with
  | some (vs, fm1) => match resAll vs fm1 with
    | some (ws, fm2) => match stoAll is ws fm2 with
      | some fm3 => some (.nx, fm3)
      | none => none
    | none => none
  | none => none
theorem tS_par {K : PySem.W.Frag} {W : WX} {is : List Nat} {m : MA} (hro : ∀ i ∈ is, i ∉ ro) {D : Ends} {σ : L2.St} {H : Hp} (h : tS K W ro (mPar is m) D σ H) : tA K m σ H fun xs H1 => is.length = xs.length ∧ D.nx (setAll σ is xs) H1 := by
  obtain ⟨F, fm, fl, fm', R, em, q⟩ := h
  unfold mPar at em
  split at em
  · rename_i vs fm1 e1
    split at em
    · rename_i ws fm2 e2
      split at em
      · rename_i fm3 e3
        cases em
        refine ⟨F, fm, vs, fm1, R, e1, fun xs F1 H1 A1 V1 N1 => ?_⟩
        obtain ⟨F2, A2, s2, k2, n2, l2, V2, N2, b2⟩ := resAll_ok A1 V1 N1 e2
        obtain ⟨A3, hl⟩ := stoAll_ok hro A2.s V2 N2 b2 e3
        exact ⟨hl, q _ F2 H1 A3⟩
      · cases em
    · cases em
  · cases em
theorem ss_par2 {i j : Nat} {x y : Str} {m : MA} {px py pt : Pos} {kt k2 pt2} (hc : X.calm = true) (hN : X.N.Nodup) (hi : X.N[i]? = some x) (hj : X.N[j]? = some y) (hij : i ≠ j)
    (hx : X.env.scope.names.lookup x = some .local) (hy : X.env.scope.names.lookup y = some .local) (hro : ∀ k ∈ [i, j], k ∉ ro) (ha : SA X [a, b] m)
    (hw : swappedStores [.Tuple [.Name x px, .Name y py] kt pt] (.Tuple [a, b] k2 pt2) X.env = pure (some [x, y]))
    (hs : swapsWithSole [.Tuple [.Name x px, .Name y py] kt pt] (.Tuple [a, b] k2 pt2) pos.line X.env = pure false) :
    SS X ro (.Assign [.Tuple [.Name x px, .Name y py] kt pt] (.Tuple [a, b] k2 pt2) pos) (mPar [i, j] m) :=
  fun W tk => ps_le (ps_par hc hN hi hj hij hx hy ha hw hs) fun D σ H h => by
    obtain ⟨F, fm, vs, fm', R, em, q⟩ := tS_par hro h
    refine ⟨F, fm, vs, fm', R, em, fun xs F' H' A V N => ?_⟩
    obtain ⟨hl, hq⟩ := q xs F' H' A V N
    match xs, hl with
    | [v, w], _ => exact ⟨v, w, rfl, hq⟩
theorem ss_par3 {i j l : Nat} {x y z : Str} {m : MA} {px py pz pt : Pos} {kt k2 pt2} (hc : X.calm = true) (hN : X.N.Nodup) (hi : X.N[i]? = some x) (hj : X.N[j]? = some y) (hl : X.N[l]? = some z) (hij : i ≠ j) (hil : i ≠ l) (hjl : j ≠ l)
    (hx : X.env.scope.names.lookup x = some .local) (hy : X.env.scope.names.lookup y = some .local) (hz : X.env.scope.names.lookup z = some .local) (hro : ∀ k ∈ [i, j, l], k ∉ ro) (ha : SA X [a, b, c] m)
    (hw : swappedStores [.Tuple [.Name x px, .Name y py, .Name z pz] kt pt] (.Tuple [a, b, c] k2 pt2) X.env = pure (some [x, y, z]))
    (hs : swapsWithSole [.Tuple [.Name x px, .Name y py, .Name z pz] kt pt] (.Tuple [a, b, c] k2 pt2) pos.line X.env = pure false) :
    SS X ro (.Assign [.Tuple [.Name x px, .Name y py, .Name z pz] kt pt] (.Tuple [a, b, c] k2 pt2) pos) (mPar [i, j, l] m) :=
  fun W tk => ps_le (ps_par3 hc hN hi hj hl hij hil hjl hx hy hz ha hw hs) fun D σ H h => by
    obtain ⟨F, fm, vs, fm', R, em, q⟩ := tS_par hro h
    refine ⟨F, fm, vs, fm', R, em, fun xs F' H' A V N => ?_⟩
    obtain ⟨hl, hq⟩ := q xs F' H' A V N
    match xs, hl with
    | [u, v, w], _ => exact ⟨u, v, w, rfl, hq⟩
def mExpr (m : ME) : MS := fun fm => match m fm with
  | some (.thr x, fm1) => some (.ex x, fm1)
  | some (_, fm1) => some (.nx, fm1)
  | none => none
theorem ss_expr {m : ME} (he : SX X e m) (hs : swapsWith e none pos.line X.env = pure false) : SS X ro (.Expr e pos) (mExpr m) :=
  fun W tk => ps_le (ps_expr (he W tk) hs) fun D σ H ⟨F, fm, fl, fm', R, em, q⟩ => by
    unfold mExpr at em
    split at em
    · rename_i x fm1 e1
      cases em
      exact ⟨F, fm, _, _, R, e1, fun x F1 H1 A1 V1 N1 => V1.elim, fun xc ex cls d F1 H1 A1 xr xn => by cases ex; exact q σ F1 H1 A1.s cls d xr xn⟩
    · rename_i v fm1 hnt e1
      cases em
      exact ⟨F, fm, v, _, R, e1, fun x F1 H1 A1 V1 N1 => q σ F1 H1 A1.s, fun xc ex => absurd ex (hnt xc)⟩
    · cases em
def mRet (m : ME) : MS := fun fm => match m fm with
  | some (.thr x, fm1) => some (.ex x, fm1)
  | some (v, fm1) => some (.rt v, fm1)
  | none => none
theorem ss_ret {m : ME} (he : SX X e m) : SS X ro (.Return (some e) pos) (mRet m) :=
  fun W tk => ps_le (ps_ret (he W tk)) fun D σ H ⟨F, fm, fl, fm', R, em, q⟩ => by
    unfold mRet at em
    split at em
    · rename_i x fm1 e1
      cases em
      exact ⟨F, fm, _, _, R, e1, fun x F1 H1 A1 V1 N1 => V1.elim, fun xc ex cls d F1 H1 A1 xr xn => by cases ex; exact q σ F1 H1 A1.s cls d xr xn⟩
    · rename_i v fm1 hnt e1
      cases em
      exact ⟨F, fm, v, _, R, e1, fun x F1 H1 A1 V1 N1 => q σ F1 H1 A1.s x V1 N1, fun xc ex => absurd ex (hnt xc)⟩
    · cases em
def mRetN : MS := fun fm => some (.rt (.dat .none), fm)
theorem ss_retN : SS X ro (.Return none pos) mRetN := fun W tk => ps_le ps_retN fun D σ H ⟨F, fm, fl, fm', R, em, q⟩ => by
  cases em
  exact q σ F H (AftS.refl R) .non .non VNew.dat
def mNext : MS := fun fm => some (.nx, fm)
theorem ss_pass : SS X ro (.Pass pos) mNext := fun W tk => ps_le ps_pass fun D σ H ⟨F, fm, fl, fm', R, em, q⟩ => by
  cases em; exact q σ F H (AftS.refl R)
def mBreak : MS := fun fm => some (.bk, fm)
theorem ss_break : SS X ro (.Break pos) mBreak := fun W tk => ps_le ps_break fun D σ H ⟨F, fm, fl, fm', R, em, q⟩ => by
  cases em; exact q σ F H (AftS.refl R)
def mCont : MS := fun fm => some (.ct, fm)
theorem ss_cont : SS X ro (.Continue pos) mCont := fun W tk => ps_le ps_continue fun D σ H ⟨F, fm, fl, fm', R, em, q⟩ => by
  cases em; exact q σ F H (AftS.refl R)
theorem sss_nil : SSs X ro [] mNext := fun W tk => pss_le pss_nil fun D σ H ⟨F, fm, fl, fm', R, em, q⟩ => by
  cases em; exact q σ F H (AftS.refl R)
theorem sss_one {m : MS} (h : SS X ro st m) : SSs X ro [st] m := fun W tk => pss_one (h W tk)
def mSeq (m n : MS) : MS := fun fm => match m fm with
  | some (.nx, fm1) => n fm1
  | r => r
theorem tS_go {K : PySem.W.Frag} {W : WX} {n : MS} {D : Ends} {σ σ1 : L2.St} {F H F1 H1 : Hp} {fm fm1 fm' : Fm} {fl : Fl} (A : AftS K ro σ F H fm σ1 F1 H1 fm1) (em : n fm1 = some (fl, fm')) (q : ∀ σ' F' H', AftS K ro σ F H fm σ' F' H' fm' → Out K W D H F' H' σ' fm' fl) : tS K W ro n D σ1 H1 := by
  refine ⟨F1, fm1, fl, fm', A.rel, em, fun σ' F' H' A' => ?_⟩
  have z := q σ' F' H' (A.trans A')
  cases fl with
  | nx => exact z
  | bk => exact z
  | ct => exact z
  | rt v => exact fun x V N => z x V (N.back A.ext)
  | ex x => exact fun cls d xr xn => z cls d xr (xn.back A.ext)
theorem sss_cons {m n : MS} (h1 : SS X ro st m) (h2 : SSs X ro sts n) : SSs X ro (st :: sts) (mSeq m n) :=
  fun W tk => pss_le (pss_cons (h1 W tk) (h2 W tk)) fun D σ H ⟨F, fm, fl, fm', R, em, q⟩ => by
    unfold mSeq at em
    split at em
    · rename_i fm1 e1
      exact ⟨F, fm, .nx, fm1, R, e1, fun σ1 F1 H1 A1 => tS_go A1 em q⟩
    · rename_i r hr
      refine ⟨F, fm, fl, fm', R, em, fun σ' F' H' A => ?_⟩
      have z := q σ' F' H' A
      cases fl with
      | nx => exact absurd em (hr fm')
      | bk => exact z
      | ct => exact z
      | rt v => exact z
      | ex x => exact z
def mIf (c : MT) (m n : MS) : MS := fun fm => match c fm with
  | some (true, fm1) => m fm1
  | some (false, fm1) => n fm1
  | none => none
theorem ss_if {mc : MT} {m n : MS} {as bs : List Stmt} (hc : ST X c mc) (ha : SSs X ro as m) (hb : SSs X ro bs n) : SS X ro (.If c as bs pos) (mIf mc m n) :=
  fun W tk => ps_le (ps_if hc (ha W tk) (hb W tk)) fun D σ H ⟨F, fm, fl, fm', R, em, q⟩ => by
    unfold mIf at em
    split at em
    · rename_i fm1 e1
      refine ⟨F, fm, true, fm1, R, e1, fun F1 H1 A1 => iteT (tS_go A1.s em q)⟩
    · rename_i fm1 e1
      refine ⟨F, fm, false, fm1, R, e1, fun F1 H1 A1 => iteF (tS_go A1.s em q)⟩
    · cases em
end
end Rf

namespace Rf
open PySem L2

section
variable {K : PySem.W.Frag} {F F' F1 H H' H1 : Hp} {σ σ' σ2 : L2.St} {fm fm' fm1 fm2 : Fm} {x : V}
structure Grow (F H F' H' : Hp) : Prop where
  same : Same F F'
  keep : Same H H'
  sub : Same F' H'
  new : ∀ a o, F' a = some o → F a = some o ∨ H a = none
theorem Grow.refl (s : Same F H) : Grow F H F H := ⟨Same.refl _, Same.refl _, s, fun _ _ h => .inl h⟩
theorem Grow.one {p : Addr} {o : HO} (s : Same F H) (hp : H p = none) : Grow F H (upd F p o) (upd H p o) :=
  ⟨Same.upd' (s.free hp), Same.upd' hp, fun b u e => by
    by_cases z : b = p
    · subst z; rw [upd_same] at e ⊢; exact e
    · rw [upd_ne z] at e ⊢; exact s b u e, fun b u e => by
    by_cases z : b = p
    · subst z; exact .inr hp
    · rw [upd_ne z] at e; exact .inl e⟩
theorem Grow.rel (g : Grow F H F' H') (R : Rel K F H σ fm) : Rel K F' H' σ fm :=
  ⟨g.sub, R.len, fun i d h => by
    obtain ⟨v, h1, h2⟩ := R.dat i d h
    exact ⟨v, h1, dp_mono g.same h2⟩, fun i c h => by
    obtain ⟨p, h1, h2, h3⟩ := R.own i c h
    obtain ⟨o, ho⟩ := h3.some'
    refine ⟨p, h1, ?_, h3.mono g.same fun u h => g.keep p u h⟩
    cases q : F' p with
    | none => rfl
    | some u =>
      rcases g.new p u q with z | z
      · rw [h2] at z; cases z
      · rw [ho] at z; (cases z), R.apart⟩
theorem Grow.aft (g : Grow F H F' H') (R : Rel K F H σ fm) : Aft K σ F H fm F' H' fm :=
  ⟨⟨g.same, fun a o _ h => g.keep a o h, fun a o h => (g.new a o h).elim .inl fun z => .inr (.inl z), fun _ h => .inl h, fun a h => g.keep.free h⟩, Keeps.refl _, g.rel R⟩
structure ItOk (Rl : RLT) (F : Hp) (J : It) (ds : List PyData) : Prop where
  go : ∀ i H, Same F H → i < ds.length → J.go i H
  stop : ∀ H, Same F H → J.stop ds.length H
  yld : ∀ (i : Nat) (d : PyData) (Fc H : Hp) (x : V) (H' : Hp), ds[i]? = some d → Same F Fc → Same Fc H → J.yld i H x H' → ∃ F2, Grow Fc H F2 H' ∧ Rl F2 x d
theorem get_lt {α : Type} {l : List α} {i : Nat} (h : i < l.length) : ∃ a, l[i]? = some a := ⟨l[i], by simp [h]⟩
theorem itok_list {a : Addr} {vs : List V} {ds : List PyData} (hq : SqL K F a vs) (r : DqAll K F vs ds) : ItOk (Dq K) F (Itl K a) ds where
  go := fun i H s h => by
    obtain ⟨x, hx⟩ := get_lt (l := vs) (i := i) (by rw [dpAll_len r]; exact h)
    exact ⟨vs, x, s.seq hq, hx⟩
  stop := fun H s => ⟨vs, s.seq hq, by rw [dpAll_len r]; exact Nat.le_refl _⟩
  yld := fun i d Fc H x H' hd s1 s2 y => by
    obtain ⟨rfl, y⟩ := y
    obtain ⟨v, h1, h2⟩ := dpAll_get r hd
    have e := y vs ((s1.trans s2).seq hq)
    rw [h1] at e; cases e
    exact ⟨Fc, Grow.refl s2, dp_mono s1 h2⟩
theorem itok_tup {a : Addr} {vs : List V} {ds : List PyData} (hq : SqT K F a vs) (r : DqAll K F vs ds) : ItOk (Dq K) F (Itt K a) ds where
  go := fun i H s h => by
    obtain ⟨x, hx⟩ := get_lt (l := vs) (i := i) (by rw [dpAll_len r]; exact h)
    exact ⟨vs, x, sqT_mono s hq, hx⟩
  stop := fun H s => ⟨vs, sqT_mono s hq, by rw [dpAll_len r]; exact Nat.le_refl _⟩
  yld := fun i d Fc H x H' hd s1 s2 y => by
    obtain ⟨rfl, y⟩ := y
    obtain ⟨v, h1, h2⟩ := dpAll_get r hd
    have e := y vs (sqT_mono (s1.trans s2) hq)
    rw [h1] at e; cases e
    exact ⟨Fc, Grow.refl s2, dp_mono s1 h2⟩
def intsFrom (lo : Int) (n : Nat) : List PyData := (List.range n).map fun k => .int (lo + (k : Nat))
theorem itok_rng {lo : Int} {n : Nat} : ItOk (Dq K) F (Itr lo n) (intsFrom lo n) where
  go := fun i H s h => by
    show i < n
    simpa [intsFrom] using h
  stop := fun H s => by show n ≤ _; simp [intsFrom]
  yld := fun i d Fc H x H' hd s1 s2 y => by
    obtain ⟨rfl, rfl⟩ := y
    refine ⟨Fc, Grow.refl s2, ?_⟩
    simp only [intsFrom, List.getElem?_map, Option.map_eq_some_iff] at hd
    obtain ⟨k, hk, rfl⟩ := hd
    have e : k = i := by
      rw [List.getElem?_range (by
        have := List.getElem?_eq_some_iff.mp hk
        simpa using this.1)] at hk
      exact (Option.some.inj hk).symm
    subst e
    exact .int _
def enum (ds : List PyData) : List PyData := (List.range ds.length).map fun k => .tuple [.int (k : Nat), ds.getD k .none]
theorem enum_get {ds : List PyData} {i : Nat} {d : PyData} (h : (enum ds)[i]? = some d) : ∃ e, ds[i]? = some e ∧ d = .tuple [.int (i : Nat), e] := by
  simp only [enum, List.getElem?_map, Option.map_eq_some_iff] at h
  obtain ⟨k, hk, rfl⟩ := h
  have hlt : i < ds.length := by
    have := List.getElem?_eq_some_iff.mp hk
    simpa using this.1
  rw [List.getElem?_range hlt] at hk
  cases hk
  refine ⟨ds[i], by simp [hlt], ?_⟩
  rw [List.getD_eq_getElem?_getD]
  simp [hlt]
theorem enum_len {ds : List PyData} : (enum ds).length = ds.length := by simp [enum]
theorem itok_enum {a : Addr} {vs : List V} {ds : List PyData} (hq : SqL K F a vs) (r : DqAll K F vs ds) : ItOk (Dw K) F (Ite K a) (enum ds) where
  go := fun i H s h => by
    rw [enum_len] at h
    obtain ⟨x, hx⟩ := get_lt (l := vs) (i := i) (by rw [dpAll_len r]; exact h)
    exact ⟨vs, x, s.seq hq, hx⟩
  stop := fun H s => ⟨vs, s.seq hq, by rw [enum_len, dpAll_len r]; exact Nat.le_refl _⟩
  yld := fun i d Fc H x H' hd s1 s2 y => by
    obtain ⟨T, y, rfl, hT, rfl, hy⟩ := y
    obtain ⟨e, he, rfl⟩ := enum_get hd
    obtain ⟨v, h1, h2⟩ := dpAll_get r he
    have e := hy vs ((s1.trans s2).seq hq)
    rw [h1] at e; cases e
    have g : Grow Fc H _ _ := Grow.one (o := .tup [.int (i : Nat), y]) s2 hT
    exact ⟨_, g, .inr ⟨_, _, _, rfl, rfl, SqT.of upd_same, .cons (.int _) (.cons (dp_mono (s1.trans g.same) h2) .nil)⟩⟩
theorem itok_enumT {a : Addr} {vs : List V} {ds : List PyData} (hq : SqT K F a vs) (r : DqAll K F vs ds) : ItOk (Dw K) F (IteT K a) (enum ds) where
  go := fun i H s h => by
    rw [enum_len] at h
    obtain ⟨x, hx⟩ := get_lt (l := vs) (i := i) (by rw [dpAll_len r]; exact h)
    exact ⟨vs, x, sqT_mono s hq, hx⟩
  stop := fun H s => ⟨vs, sqT_mono s hq, by rw [enum_len, dpAll_len r]; exact Nat.le_refl _⟩
  yld := fun i d Fc H x H' hd s1 s2 y => by
    obtain ⟨T, y, rfl, hT, rfl, hy⟩ := y
    obtain ⟨e, he, rfl⟩ := enum_get hd
    obtain ⟨v, h1, h2⟩ := dpAll_get r he
    have e := hy vs (sqT_mono (s1.trans s2) hq)
    rw [h1] at e; cases e
    have g : Grow Fc H _ _ := Grow.one (o := .tup [.int (i : Nat), y]) s2 hT
    exact ⟨_, g, .inr ⟨_, _, _, rfl, rfl, SqT.of upd_same, .cons (.int _) (.cons (dp_mono (s1.trans g.same) h2) .nil)⟩⟩
def zip2 : List PyData → List PyData → List PyData
  | a :: as, b :: bs => .tuple [a, b] :: zip2 as bs
  | _, _ => []
theorem zip2_get : ∀ {as bs : List PyData} {i : Nat} {d : PyData}, (zip2 as bs)[i]? = some d → ∃ a b, as[i]? = some a ∧ bs[i]? = some b ∧ d = .tuple [a, b]
  | a :: as, b :: bs, 0, d, h => ⟨a, b, rfl, rfl, by simpa [zip2] using h.symm⟩
  | a :: as, b :: bs, i + 1, d, h => by
    obtain ⟨x, y, h1, h2, h3⟩ := zip2_get (as := as) (bs := bs) (i := i) (d := d) (by simpa [zip2] using h)
    exact ⟨x, y, by simpa using h1, by simpa using h2, h3⟩
  | [], _, _, _, h => by simp [zip2] at h
  | _ :: _, [], _, _, h => by simp [zip2] at h
theorem zip2_len : ∀ {as bs : List PyData}, (zip2 as bs).length = min as.length bs.length
  | a :: as, b :: bs => by simp [zip2, zip2_len]
  | [], _ => by simp [zip2]
  | _ :: _, [] => by simp [zip2]
theorem itok_zip {a b : Addr} {vs us : List V} {ds es : List PyData} (hq : SqL K F a vs) (hp : SqL K F b us) (r : DqAll K F vs ds) (t : DqAll K F us es) : ItOk (Dw K) F (Itz K a b) (zip2 ds es) where
  go := fun i H s h => by
    rw [zip2_len] at h
    obtain ⟨x, hx⟩ := get_lt (l := vs) (i := i) (by rw [dpAll_len r]; omega)
    obtain ⟨y, hy⟩ := get_lt (l := us) (i := i) (by rw [dpAll_len t]; omega)
    exact ⟨vs, us, x, y, s.seq hq, s.seq hp, hx, hy⟩
  stop := fun H s => ⟨vs, us, s.seq hq, s.seq hp, by rw [zip2_len, dpAll_len r, dpAll_len t]; omega⟩
  yld := fun i d Fc H x H' hd s1 s2 y => by
    obtain ⟨T, y, z, rfl, hT, rfl, hy, hz⟩ := y
    obtain ⟨e, e2, he, he2, rfl⟩ := zip2_get hd
    obtain ⟨v, h1, h2⟩ := dpAll_get r he
    obtain ⟨u, h3, h4⟩ := dpAll_get t he2
    have e := hy vs ((s1.trans s2).seq hq)
    rw [h1] at e; cases e
    have e := hz us ((s1.trans s2).seq hp)
    rw [h3] at e; cases e
    have g : Grow Fc H _ _ := Grow.one (o := .tup [y, z]) s2 hT
    exact ⟨_, g, .inr ⟨_, _, _, rfl, rfl, SqT.of upd_same, .cons (dp_mono (s1.trans g.same) h2) (.cons (dp_mono (s1.trans g.same) h4) .nil)⟩⟩
theorem itok_zipT {a b : Addr} {vs us : List V} {ds es : List PyData} (hq : SqT K F a vs) (hp : SqT K F b us) (r : DqAll K F vs ds) (t : DqAll K F us es) : ItOk (Dw K) F (RZ.ItzT K a b) (zip2 ds es) where
  go := fun i H s h => by
    rw [zip2_len] at h
    obtain ⟨x, hx⟩ := get_lt (l := vs) (i := i) (by rw [dpAll_len r]; omega)
    obtain ⟨y, hy⟩ := get_lt (l := us) (i := i) (by rw [dpAll_len t]; omega)
    exact ⟨vs, us, x, y, sqT_mono s hq, sqT_mono s hp, hx, hy⟩
  stop := fun H s => ⟨vs, us, sqT_mono s hq, sqT_mono s hp, by rw [zip2_len, dpAll_len r, dpAll_len t]; omega⟩
  yld := fun i d Fc H x H' hd s1 s2 y => by
    obtain ⟨T, y, z, rfl, hT, rfl, hy, hz⟩ := y
    obtain ⟨e, e2, he, he2, rfl⟩ := zip2_get hd
    obtain ⟨v, h1, h2⟩ := dpAll_get r he
    obtain ⟨u, h3, h4⟩ := dpAll_get t he2
    have e := hy vs (sqT_mono (s1.trans s2) hq)
    rw [h1] at e; cases e
    have e := hz us (sqT_mono (s1.trans s2) hp)
    rw [h3] at e; cases e
    have g : Grow Fc H _ _ := Grow.one (o := .tup [y, z]) s2 hT
    exact ⟨_, g, .inr ⟨_, _, _, rfl, rfl, SqT.of upd_same, .cons (dp_mono (s1.trans g.same) h2) (.cons (dp_mono (s1.trans g.same) h4) .nil)⟩⟩
end
abbrev MI := Fm → Option (List PyData × Fm)
def tI (K : PySem.W.Frag) (Rl : RLT) (mi : MI) : TI := fun σ H R => ∃ F fm ds fm', Rel K F H σ fm ∧ mi fm = some (ds, fm') ∧ ∀ J F' H', Aft K σ F H fm F' H' fm' → ItOk Rl F' J ds → R J H'
def SI (X : Cx) (Rl : RLT) (tg iter : Expr) (mi : MI) : Prop := PI X tg iter (tI X.K Rl mi)
section
variable {X : Cx} {e a b c tg iter : Expr} {es : List Expr} {pos p1 p2 tpos : Pos} {st : Stmt} {sts body : List Stmt} {ro : List Nat} {elts : List Expr} {kk : Nat}
theorem pi_le {t t' : TI} (h : PI X tg iter t) (k : ∀ σ H Q, t' σ H Q → t σ H Q) : PI X tg iter t' := ⟨fun pins s σ H Q I q => h.run pins s σ H Q I (k σ H Q q)⟩
def iSq (K : PySem.W.Frag) (tl : TE) : TI := fun σ H R => tl σ H fun x H1 => ∃ a, x = .ref a ∧ (((∃ xs, SqL K H1 a xs) ∧ R (Itl K a) H1) ∨ ((∃ xs, SqT K H1 a xs) ∧ R (Itt K a) H1))
theorem pi_sq {l : Expr} {tl : TE} (hl : PE X l tl) : PI X tg l (iSq X.K tl) := by
  refine ⟨fun pins s σ H R I h => ?_⟩
  refine thn (hl.run pins s σ H _ I h) fun v s1 ⟨x, H1, I1, r1, q1⟩ => ?_
  obtain ⟨a, e, ⟨⟨xs, hq⟩, q⟩ | ⟨⟨xs, hq⟩, q⟩⟩ := q1
  · subst e
    cases r1
    obtain ⟨its, rv, p, hz⟩ := I1.list hq
    refine wpAny_pyIter_list p.isList ?_
    refine ⟨s1.heap.objs.size, [s1.heap.objs.size], _, _, H1, rfl, I1.kept (t' := s1.toks) fun b o e => Heap.get?_push_of_some _ e, turn_list a _, ⟨_, Heap.get?_push_size _ rfl, rfl, rfl⟩, fun b hb => ?_, q⟩
    have e : b = s1.heap.objs.size := by simpa using hb
    subst e
    exact I1.fpOk (Nat.le_refl _) (I1.hok.fresh (Nat.le_refl _))
  · subst e
    cases r1
    obtain ⟨its, rv, p, hz⟩ := I1.tuple hq
    refine wpAny_pyIter_tuple (show s1.heap.IsTuple a its.toArray from p) ?_
    refine ⟨s1.heap.objs.size, [s1.heap.objs.size], _, _, H1, rfl, I1.kept (t' := s1.toks) fun b o e => Heap.get?_push_of_some _ e, turn_tuple a _, ⟨_, Heap.get?_push_size _ rfl, rfl, rfl⟩, fun b hb => ?_, q⟩
    have e : b = s1.heap.objs.size := by simpa using hb
    subst e
    exact I1.fpOk (Nat.le_refl _) (I1.hok.fresh (Nat.le_refl _))
def iSeq (m : ME) : MI := fun fm => match m fm with
  | some (v, fm1) => match frz v fm1 with
    | some (.list ds, fm2) => some (ds, fm2)
    | some (.tuple ds, fm2) => some (ds, fm2)
    | _ => none
  | none => none
theorem Aft.frz {K : PySem.W.Frag} {F F1 H H1 : Hp} {σ : L2.St} {fm fm1 fm2 : Fm} {v : SV} {x : V} {d : PyData} (A : Aft K σ F H fm F1 H1 fm1) (V : VRel K F1 H1 σ fm1 v x) (N : VNew H v x) (h : frz v fm1 = some (d, fm2)) :
    ∃ F2, Aft K σ F H fm F2 H1 fm2 ∧ Dq K F2 x d := by
  obtain ⟨F2, E2, _, _, R2, D2, k2, _⟩ := frz_ok A.ext A.rel V N h
  exact ⟨F2, ⟨E2, A.kp.trans k2, R2⟩, D2⟩
theorem si_seq {m : ME} (h : SE X e m) : SI X (Dq X.K) tg e (iSeq m) := pi_le (pi_sq h) fun σ H R ⟨F, fm, ds, fm', rel, em, q⟩ => by
  unfold iSeq at em
  split at em
  · rename_i v fm1 e1
    refine ⟨F, fm, v, fm1, rel, e1, fun x F1 H1 A V N => ?_⟩
    split at em
    · rename_i ds' fm2 e2
      cases em
      obtain ⟨F2, A2, D2⟩ := A.frz V N e2
      cases D2 with
      | lst hq r => exact ⟨_, rfl, .inl ⟨⟨_, A2.rel.sub.seq hq⟩, q _ F2 H1 A2 (itok_list hq r)⟩⟩
    · rename_i ds' fm2 e2
      cases em
      obtain ⟨F2, A2, D2⟩ := A.frz V N e2
      cases D2 with
      | tup hq r => exact ⟨_, rfl, .inr ⟨⟨_, sqT_mono A2.rel.sub hq.1⟩, q _ F2 H1 A2 (itok_tup hq.1 r)⟩⟩
    · cases em
  · cases em
def iRan (m : MA) : MI := fun fm => match m fm with
  | some ([.dat (.int j)], fm1) => if -(2 ^ 62) ≤ j ∧ j < 2 ^ 62 then some (intsFrom 0 j.toNat, fm1) else none
  | _ => none
theorem vsrel1 {K : PySem.W.Frag} {F H : Hp} {σ : L2.St} {fm : Fm} {v : SV} {xs : List V} (h : VsRel K F H σ fm [v] xs) : ∃ x, xs = [x] ∧ VRel K F H σ fm v x := by
  cases h with
  | cons h r _ => cases r; exact ⟨_, rfl, h⟩
theorem vsrel2 {K : PySem.W.Frag} {F H : Hp} {σ : L2.St} {fm : Fm} {v w : SV} {xs : List V} (h : VsRel K F H σ fm [v, w] xs) : ∃ x y, xs = [x, y] ∧ VRel K F H σ fm v x ∧ VRel K F H σ fm w y := by
  cases h with
  | cons h r _ => obtain ⟨y, rfl, h2⟩ := vsrel1 r; exact ⟨_, y, rfl, h, h2⟩
theorem dpint {K : PySem.W.Frag} {F : Hp} {x : V} {i : Int} (h : Dq K F x (.int i)) : x = .int i := by cases h; rfl
theorem si_ran {m : MA} (hg : Gl X "range") (hm : X.mg "range" = none) (ha : SA X [a] m) (hs : starEach [a] X.env = [(false, eval a X.env)] := by rfl) : SI X (Dq X.K) tg (.Call (.Name "range" p1) [a] [] pos) (iRan m) :=
  pi_le (pi_range1 hg hm ha hs) fun σ H R ⟨F, fm, ds, fm', rel, em, q⟩ => by
    unfold iRan at em
    split at em
    · rename_i j fm1 e1
      split at em
      · rename_i hj
        cases em
        refine ⟨F, fm, _, _, rel, e1, fun xs F1 H1 A V N => ?_⟩
        obtain ⟨x, rfl, V1⟩ := vsrel1 V
        have := dpint V1
        subst this
        exact ⟨j, rfl, hj.1, hj.2, q _ F1 H1 A itok_rng⟩
      · cases em
    · cases em
def iRan2 (m : MA) : MI := fun fm => match m fm with
  | some ([.dat (.int i), .dat (.int j)], fm1) => if (-(2 ^ 62) ≤ i ∧ i < 2 ^ 62) ∧ -(2 ^ 62) ≤ j ∧ j < 2 ^ 62 then some (intsFrom i (j - i).toNat, fm1) else none
  | _ => none
theorem si_ran2 {m : MA} (hg : Gl X "range") (hm : X.mg "range" = none) (ha : SA X [a, b] m) (hs : starEach [a, b] X.env = [(false, eval a X.env), (false, eval b X.env)] := by rfl) (hs2 : starEach [b] X.env = [(false, eval b X.env)] := by rfl) : SI X (Dq X.K) tg (.Call (.Name "range" p1) [a, b] [] pos) (iRan2 m) :=
  pi_le (pi_range2 hg hm ha hs hs2) fun σ H R ⟨F, fm, ds, fm', rel, em, q⟩ => by
    unfold iRan2 at em
    split at em
    · rename_i i j fm1 e1
      split at em
      · rename_i hj
        cases em
        refine ⟨F, fm, _, _, rel, e1, fun xs F1 H1 A V N => ?_⟩
        obtain ⟨x, y, rfl, V1, V2⟩ := vsrel2 V
        have := dpint V1
        subst this
        have := dpint V2
        subst this
        exact ⟨i, j, rfl, ⟨hj.1.1, hj.1.2, hj.2.1, hj.2.2⟩, q _ F1 H1 A itok_rng⟩
      · cases em
    · cases em
def iEnm (m : MA) : MI := fun fm => match m fm with
  | some ([v], fm1) => match frz v fm1 with
    | some (.list ds, fm2) => some (enum ds, fm2)
    | some (.tuple ds, fm2) => some (enum ds, fm2)
    | _ => none
  | _ => none
theorem vsnew1 {H : Hp} {v : SV} {x : V} (h : VsNew H [v] [x]) : VNew H v x := by cases h with | cons h _ => exact h
theorem si_enm {m : MA} (hg : Gl X "enumerate") (hm : X.mg "enumerate" = none) (ha : SA X [e] m) (hs : starEach [e] X.env = [(false, eval e X.env)] := by rfl) : SI X (Dw X.K) (.Tuple elts kk tpos) (.Call (.Name "enumerate" p1) [e] [] pos) (iEnm m) :=
  pi_le (pi_enumA hg hm ha hs) fun σ H R ⟨F, fm, ds, fm', rel, em, q⟩ => by
    unfold iEnm at em
    split at em
    · rename_i v fm1 e1
      split at em
      · rename_i ds' fm2 e2
        cases em
        refine ⟨F, fm, _, fm1, rel, e1, fun xs F1 H1 A V N => ?_⟩
        obtain ⟨x, rfl, V1⟩ := vsrel1 V
        obtain ⟨F2, A2, D2⟩ := A.frz V1 (vsnew1 N) e2
        cases D2 with
        | lst hq r => exact ⟨_, _, rfl, .inl ⟨A2.rel.sub.seq hq, q _ F2 H1 A2 (itok_enum hq r)⟩⟩
      · rename_i ds' fm2 e2
        cases em
        refine ⟨F, fm, _, fm1, rel, e1, fun xs F1 H1 A V N => ?_⟩
        obtain ⟨x, rfl, V1⟩ := vsrel1 V
        obtain ⟨F2, A2, D2⟩ := A.frz V1 (vsnew1 N) e2
        cases D2 with
        | tup hq r => exact ⟨_, _, rfl, .inr ⟨sqT_mono A2.rel.sub hq.1, q _ F2 H1 A2 (itok_enumT hq.1 r)⟩⟩
      · cases em
    · cases em
def iZp0 (m : MA) : MI := fun fm => match m fm with
  | some (vs, fm1) => match frzAll vs fm1 with
    | some ([.list ds, .list es], fm2) => some (zip2 ds es, fm2)
    | some ([.tuple ds, .tuple es], fm2) => some (zip2 ds es, fm2)
    | _ => none
  | _ => none
theorem si_zip {m : MA} (hg : Gl X "zip") (hm : X.mg "zip" = none) (ha : SA X [a, b] m) (hs : starEach [a, b] X.env = (false, eval a X.env) :: starEach [b] X.env := by rfl) (hpl : (backTo pos (starEach [b] X.env)).any (·.1) = false := by rfl) : SI X (Dw X.K) (.Tuple elts kk tpos) (.Call (.Name "zip" p1) [a, b] [] pos) (iZp0 m) :=
  pi_le (RZ.pi_zipA hg hm ha hs hpl) fun σ H R ⟨F, fm, ds, fm', rel, em, q⟩ => by
    unfold iZp0 at em
    split at em
    · rename_i vs fm1 e1
      refine ⟨F, fm, _, fm1, rel, e1, fun xs F1 H1 A V N => ?_⟩
      split at em
      · rename_i ds' es' fm2 e2
        cases em
        obtain ⟨F2, A2, D2⟩ := aft_frzAll A V N e2
        cases D2 with
        | cons d1 r =>
          cases r with
          | cons d2 r =>
            cases r
            cases d1 with
            | lst hq r1 =>
              cases d2 with
              | lst hp r2 => exact ⟨_, _, _, _, rfl, .inl ⟨A2.rel.sub.seq hq, A2.rel.sub.seq hp, q _ F2 H1 A2 (itok_zip hq hp r1 r2)⟩⟩
      · rename_i ds' es' fm2 e2
        cases em
        obtain ⟨F2, A2, D2⟩ := aft_frzAll A V N e2
        cases D2 with
        | cons d1 r =>
          cases r with
          | cons d2 r =>
            cases r
            cases d1 with
            | tup hq r1 =>
              cases d2 with
              | tup hp r2 => exact ⟨_, _, _, _, rfl, .inr ⟨sqT_mono A2.rel.sub hq.1, sqT_mono A2.rel.sub hp.1, q _ F2 H1 A2 (itok_zipT hq.1 hp.1 r1 r2)⟩⟩
      · cases em
    · cases em

def loopM (g : MG) (m : MS) : List PyData → Fm → Option (Fl × Fm)
  | [], fm => some (.nx, fm)
  | d :: ds, fm => match g d fm with
    | none => none
    | some fm1 => match m fm1 with
      | some (.nx, fm2) => loopM g m ds fm2
      | some (.ct, fm2) => loopM g m ds fm2
      | some (.bk, fm2) => some (.nx, fm2)
      | some (.rt v, fm2) => some (.rt v, fm2)
      | some (.ex x, fm2) => some (.ex x, fm2)
      | none => none
def mFor (mi : MI) (g : MG) (m : MS) : MS := fun fm => match mi fm with
  | some (ds, fm1) => loopM g m ds fm1
  | none => none
theorem ss_for {Rl : RLT} {mi : MI} {g : MG} {m : MS} (hp : PassesOwn (model X.prog X.w) X.A X.env X.xe) (hc : X.calm = true) (hi : SI X Rl tg iter mi) (hg : SG X Rl ro tg g) (hb : SSs X ro body m)
    (hs : ∀ x, foldedSetIterable iter X.env x = pure x := by intro _; rfl) : SS X ro (.For tg iter body [] pos) (mFor mi g m) :=
  fun W tk => ps_le (ps_for hp hc hi hg (hb W tk) hs) fun D σ H ⟨F, fm, fl, fm', R, em, q⟩ => by
    unfold mFor at em
    split at em
    · rename_i ds fm1 e1
      refine ⟨F, fm, ds, fm1, R, e1, fun J F1 H1 A1 IO => ?_⟩
      refine ⟨fun i n σc Hc => n = ds.length - i ∧ i ≤ ds.length ∧ ∃ Fc fmc, AftS X.K ro σ F H fm σc Fc Hc fmc ∧ Same F1 Fc ∧ loopM g m (ds.drop i) fmc = some (fl, fm'), ⟨ds.length, rfl, Nat.zero_le _, F1, fm1, A1.s, Same.refl _, em⟩, ?_⟩
      rintro i n σc Hc ⟨rfl, hi, Fc, fmc, A, sF, el⟩
      by_cases hlt : i < ds.length
      · refine .inr ⟨IO.go i Hc (sF.trans A.rel.sub) hlt, fun σ' H' => (i + 1 ≤ ds.length ∧ ∃ Fc fmc, AftS X.K ro σ F H fm σ' Fc H' fmc ∧ Same F1 Fc ∧ loopM g m (ds.drop (i + 1)) fmc = some (fl, fm')), fun σ' H' p => ⟨ds.length - (i + 1), by omega, rfl, p.1, p.2⟩, fun x H' y => ?_⟩
        obtain ⟨F2, G, Dx⟩ := IO.yld i ds[i] Fc Hc x H' (by simp [hlt]) sF A.rel.sub y
        have A2 := A.trans (G.aft A.rel).s
        rw [List.drop_eq_getElem_cons hlt] at el
        simp only [loopM] at el
        split at el
        · cases el
        · rename_i fm2 eg
          refine ⟨F2, fmc, ds[i], fm2, A2.rel, Dx, eg, fun σ2 F3 H3 A3 => ?_⟩
          have A3' := A2.trans A3
          have s3 : Same F1 F3 := sF.trans (G.same.trans A3.ext.same)
          split at el
          · rename_i fm3 e3
            exact ⟨F3, fm2, _, fm3, A3.rel, e3, fun σ4 F4 H4 A4 => ⟨hlt, F4, fm3, A3'.trans A4, s3.trans A4.ext.same, el⟩⟩
          · rename_i fm3 e3
            exact ⟨F3, fm2, _, fm3, A3.rel, e3, fun σ4 F4 H4 A4 => ⟨hlt, F4, fm3, A3'.trans A4, s3.trans A4.ext.same, el⟩⟩
          · rename_i fm3 e3
            cases el
            exact ⟨F3, fm2, _, _, A3.rel, e3, fun σ4 F4 H4 A4 => q σ4 F4 H4 (A3'.trans A4)⟩
          · rename_i v fm3 e3
            cases el
            exact ⟨F3, fm2, _, _, A3.rel, e3, fun σ4 F4 H4 A4 x V N => q σ4 F4 H4 (A3'.trans A4) x V (N.back A3'.ext)⟩
          · rename_i xc fm3 e3
            cases el
            exact ⟨F3, fm2, _, _, A3.rel, e3, fun σ4 F4 H4 A4 cls d xr xn => q σ4 F4 H4 (A3'.trans A4) cls d xr (xn.back A3'.ext)⟩
          · cases el
      · have e : i = ds.length := by omega
        subst e
        rw [List.drop_length] at el
        cases el
        exact .inl ⟨IO.stop Hc (sF.trans A.rel.sub), q σc Fc Hc A⟩
    · cases em
def whileM (c : MT) (m : MS) : Nat → Fm → Option (Fl × Fm)
  | 0, _ => none
  | n + 1, fm => match c fm with
    | none => none
    | some (false, fm1) => some (.nx, fm1)
    | some (true, fm1) => match m fm1 with
      | some (.nx, fm2) => whileM c m n fm2
      | some (.ct, fm2) => whileM c m n fm2
      | some (.bk, fm2) => some (.nx, fm2)
      | some (.rt v, fm2) => some (.rt v, fm2)
      | some (.ex x, fm2) => some (.ex x, fm2)
      | none => none
def mWhile (n : Nat) (c : MT) (m : MS) : MS := whileM c m n
theorem ss_while {n : Nat} {mc : MT} {m : MS} (hp : PassesOwn (model X.prog X.w) X.A X.env X.xe) (hc : ST X c mc) (hb : SSs X ro body m) : SS X ro (.While c body [] pos) (mWhile n mc m) :=
  fun W tk => ps_le (ps_while hp hc (hb W tk)) fun D σ H ⟨F, fm, fl, fm', R, em, q⟩ => by
    refine ⟨fun k σc Hc => ∃ Fc fmc, AftS X.K ro σ F H fm σc Fc Hc fmc ∧ whileM mc m k fmc = some (fl, fm'), ⟨n, F, fm, AftS.refl R, em⟩, ?_⟩
    rintro k σc Hc ⟨Fc, fmc, A, el⟩
    cases k with
    | zero => cases el
    | succ k =>
      simp only [whileM] at el
      split at el
      · cases el
      · rename_i fm1 e1
        cases el
        exact ⟨Fc, fmc, false, _, A.rel, e1, fun F1 H1 A1 => iteF (q σc F1 H1 (A.trans A1.s))⟩
      · rename_i fm1 e1
        refine ⟨Fc, fmc, true, fm1, A.rel, e1, fun F1 H1 A1 => iteT ?_⟩
        have A2 := A.trans A1.s
        refine ⟨fun σ' H' => ∃ Fc fmc, AftS X.K ro σ F H fm σ' Fc H' fmc ∧ whileM mc m k fmc = some (fl, fm'), fun σ' H' p => ⟨k, by omega, p⟩, ?_⟩
        split at el
        · rename_i fm3 e3
          exact ⟨F1, fm1, _, fm3, A2.rel, e3, fun σ4 F4 H4 A4 => ⟨F4, fm3, A2.trans A4, el⟩⟩
        · rename_i fm3 e3
          exact ⟨F1, fm1, _, fm3, A2.rel, e3, fun σ4 F4 H4 A4 => ⟨F4, fm3, A2.trans A4, el⟩⟩
        · rename_i fm3 e3
          cases el
          exact ⟨F1, fm1, _, _, A2.rel, e3, fun σ4 F4 H4 A4 => q σ4 F4 H4 (A2.trans A4)⟩
        · rename_i v fm3 e3
          cases el
          exact ⟨F1, fm1, _, _, A2.rel, e3, fun σ4 F4 H4 A4 x V N => q σ4 F4 H4 (A2.trans A4) x V (N.back A2.ext)⟩
        · rename_i xc fm3 e3
          cases el
          exact ⟨F1, fm1, _, _, A2.rel, e3, fun σ4 F4 H4 A4 cls d xr xn => q σ4 F4 H4 (A2.trans A4) cls d xr (xn.back A2.ext)⟩
        · cases el
end
end Rf

namespace Rf
open PySem L2

abbrev Dm := List S0 → Option (SV × List S0)
abbrev fA (as : List S0) : Fm := as.map some
abbrev sA (xs : List V) : L2.St := xs.map some
def spM (K : PySem.W.Frag) (f : Dm) : Sp := fun xs H Q E => ∃ F as r outs, Rel K F H (sA xs) (fA as) ∧ f as = some (r, outs) ∧
  (∀ x F' H', Aft K (sA xs) F H (fA as) F' H' (fA outs) → VRel K F' H' (sA xs) (fA outs) r x → VNew H r x → Q x H') ∧
  ∀ xc, r = .thr xc → ∀ cls d F' H', Aft K (sA xs) F H (fA as) F' H' (fA outs) → XRel K F' H' xc cls d → XNew H d → E cls d H'
def argOf (v : SV) (fm : Fm) : Option S0 := match v with
  | .dat d => some (.dat d)
  | .fre c => some (.own c)
  | .bor i => match fm[i]? with
    | some (some s) => some s
    | _ => none
  | .thr _ => none
def argsOf : List SV → Fm → Option (List S0)
  | [], _ => some []
  | v :: vs, fm => match argOf v fm with
    | some s => match argsOf vs fm with
      | some ss => some (s :: ss)
      | none => none
    | none => none
def bors : List SV → List Nat
  | [] => []
  | .bor i :: vs => i :: bors vs
  | _ :: vs => bors vs
def wback : List SV → List S0 → Fm → Fm
  | .bor i :: vs, o :: os, fm => (wback vs os fm).set i (some o)
  | _ :: vs, _ :: os, fm => wback vs os fm
  | _, _, fm => fm
def mCall (f : Dm) (ma : MA) : ME := fun fm => match ma fm with
  | none => none
  | some (vs, fm1) => match argsOf vs fm1 with
    | none => none
    | some as => if (bors vs).Nodup then (match f as with
      | some (.bor _, _) => none
      | some (.thr _, _) => none
      | some (r, outs) => some (r, wback vs outs fm1)
      | none => none) else none
def mCallX (f : Dm) (ma : MA) : ME := fun fm => match ma fm with
  | none => none
  | some (vs, fm1) => match argsOf vs fm1 with
    | none => none
    | some as => if (bors vs).Nodup then (match f as with
      | some (.bor _, _) => none
      | some (r, outs) => some (r, wback vs outs fm1)
      | none => none) else none
section
variable {K : PySem.W.Frag} {F F' F0 F1 H H' H0 H1 : Hp} {σ : L2.St} {fm fm0 fm1 fm' : Fm} {vs : List SV} {xs : List V} {as outs : List S0}
theorem mCallX_inv {f : Dm} {ma : MA} {v : SV} (h : mCallX f ma fm = some (v, fm')) : ∃ vs fm1 as outs, ma fm = some (vs, fm1) ∧ argsOf vs fm1 = some as ∧ (bors vs).Nodup ∧ f as = some (v, outs) ∧ (∀ j, v ≠ .bor j) ∧ fm' = wback vs outs fm1 := by
  unfold mCallX at h
  split at h
  · cases h
  · rename_i vs fm1 e1
    split at h
    · cases h
    · rename_i as e2
      split at h
      · rename_i nd
        split at h
        · cases h
        · rename_i r outs hb e3
          cases h
          exact ⟨vs, fm1, as, outs, e1, e2, nd, e3, fun j z => by subst z; exact hb j rfl, rfl⟩
        · cases h
      · cases h
theorem mCall_inv {f : Dm} {ma : MA} {v : SV} (h : mCall f ma fm = some (v, fm')) : ∃ vs fm1 as outs, ma fm = some (vs, fm1) ∧ argsOf vs fm1 = some as ∧ (bors vs).Nodup ∧ f as = some (v, outs) ∧ (∀ j, v ≠ .bor j) ∧ (∀ j, v ≠ .thr j) ∧ fm' = wback vs outs fm1 := by
  unfold mCall at h
  split at h
  · cases h
  · rename_i vs fm1 e1
    split at h
    · cases h
    · rename_i as e2
      split at h
      · rename_i nd
        split at h
        · cases h
        · cases h
        · rename_i r outs hb hb2 e3
          cases h
          exact ⟨vs, fm1, as, outs, e1, e2, nd, e3, fun j z => by subst z; exact hb j rfl, fun j z => by subst z; exact hb2 j rfl, rfl⟩
        · cases h
      · cases h
theorem argsOf_get : ∀ {vs : List SV} {as : List S0} {k : Nat} {s : S0}, argsOf vs fm = some as → as[k]? = some s → ∃ v, vs[k]? = some v ∧ argOf v fm = some s
  | [], _, _, _, h, e => by cases h; simp at e
  | v :: vs, as, k, s, h, e => by
    simp only [argsOf] at h
    split at h
    · rename_i s1 e1
      split at h
      · rename_i ss e2
        cases h
        cases k with
        | zero => simp at e; subst e; exact ⟨v, rfl, e1⟩
        | succ k =>
          obtain ⟨w, h1, h2⟩ := argsOf_get (k := k) e2 (by simpa using e)
          exact ⟨w, by simpa using h1, h2⟩
      · cases h
    · cases h
theorem argsOf_len : ∀ {vs : List SV} {as : List S0}, argsOf vs fm = some as → as.length = vs.length
  | [], _, h => by cases h; rfl
  | v :: vs, as, h => by
    simp only [argsOf] at h
    split at h
    · split at h
      · rename_i ss e2
        cases h
        simp [argsOf_len e2]
      · cases h
    · cases h
theorem VsRel.get : ∀ {vs : List SV} {xs : List V} {k : Nat} {v : SV}, VsRel K F H σ fm vs xs → vs[k]? = some v → ∃ x, xs[k]? = some x ∧ VRel K F H σ fm v x
  | _, _, _, _, .nil, h => by simp at h
  | _, _, 0, _, .cons h _ _, e => by simp at e; subst e; exact ⟨_, rfl, h⟩
  | _, _, k + 1, v, .cons _ r _, e => by
    obtain ⟨x, h1, h2⟩ := VsRel.get (k := k) r (by simpa using e)
    exact ⟨x, by simpa using h1, h2⟩
theorem VsRel.apart : ∀ {vs : List SV} {xs : List V} {j k : Nat} {c c' : Cell} {x : V}, VsRel K F H σ fm vs xs → j < k → vs[j]? = some (.fre c) → vs[k]? = some (.fre c') → xs[j]? = some x → xs[k]? ≠ some x
  | _, _, _, _, _, _, _, .nil, _, h, _, _ => by simp at h
  | _, _, 0, k + 1, c, c', x, .cons h r d, _, e1, e2, e3 => by
    simp at e1 e3; subst e1 e3
    have := d c rfl k c' (by simpa using e2)
    simpa using this
  | _, _, j + 1, k + 1, c, c', x, .cons _ r _, hl, e1, e2, e3 => by
    have := VsRel.apart (j := j) (k := k) r (by omega) (by simpa using e1) (by simpa using e2) (by simpa using e3)
    simpa using this
theorem bors_mem : ∀ {vs : List SV} {k i : Nat}, vs[k]? = some (.bor i) → i ∈ bors vs
  | [], _, _, h => by simp at h
  | v :: vs, 0, i, h => by simp at h; subst h; simp [bors]
  | v :: vs, k + 1, i, h => by
    have := bors_mem (vs := vs) (k := k) (i := i) (by simpa using h)
    cases v <;> simp [bors, this]
theorem bors_apart : ∀ {vs : List SV} {j k i i' : Nat}, (bors vs).Nodup → j < k → vs[j]? = some (.bor i) → vs[k]? = some (.bor i') → i ≠ i'
  | [], _, _, _, _, _, _, h, _ => by simp at h
  | v :: vs, 0, k + 1, i, i', nd, _, h1, h2 => by
    simp at h1; subst h1
    have m := bors_mem (vs := vs) (k := k) (by simpa using h2)
    simp [bors] at nd
    intro e; subst e; exact nd.1 m
  | v :: vs, j + 1, k + 1, i, i', nd, hl, h1, h2 => by
    have nd' : (bors vs).Nodup := by
      cases v <;> simp [bors] at nd
      · exact nd
      · exact nd
      · exact nd.2
      · exact nd
    exact bors_apart (j := j) (k := k) nd' (by omega) (by simpa using h1) (by simpa using h2)
theorem live_args {p : Addr} (h : Live (sA xs) (fA as) p) : ∃ (k : Nat) (c : Cell), as[k]? = some (.own c) ∧ xs[k]? = some (.ref p) := by
  obtain ⟨k, c, h1, h2⟩ := h
  rw [List.getElem?_map] at h1 h2
  refine ⟨k, c, ?_, ?_⟩
  · cases e : as[k]? with
    | none => rw [e] at h1; cases h1
    | some s => rw [e] at h1; cases h1; rfl
  · cases e : xs[k]? with
    | none => rw [e] at h2; cases h2
    | some s => rw [e] at h2; cases h2; rfl
theorem args_live {p : Addr} {k : Nat} {c : Cell} (h1 : as[k]? = some (.own c)) (h2 : xs[k]? = some (.ref p)) : Live (sA xs) (fA as) p :=
  ⟨k, c, by rw [List.getElem?_map, h1]; rfl, by rw [List.getElem?_map, h2]; rfl⟩
theorem arg_own (R : Rel K F H σ fm) (V : VsRel K F H σ fm vs xs) (hA : argsOf vs fm = some as) {k : Nat} {c : Cell} (h : as[k]? = some (.own c)) :
    ∃ p, xs[k]? = some (.ref p) ∧ F p = none ∧ CRel K F H p c ∧ ((vs[k]? = some (.fre c) ∧ ¬ Live σ fm p) ∨ (∃ i, vs[k]? = some (.bor i) ∧ fm[i]? = some (some (.own c)) ∧ σ[i]? = some (some (.ref p)))) := by
  obtain ⟨v, h1, h2⟩ := argsOf_get hA h
  obtain ⟨x, h3, h4⟩ := V.get h1
  cases v with
  | thr _ => exact h4.elim
  | dat d => cases h2
  | fre c' =>
    cases h2
    obtain ⟨p, rfl, hf, hc, hl⟩ := h4
    exact ⟨p, h3, hf, hc, .inl ⟨h1, hl⟩⟩
  | bor i =>
    simp only [argOf] at h2
    obtain ⟨h5, s, h6⟩ := h4
    rw [h6] at h2
    cases h2
    obtain ⟨p, h7, h8, h9⟩ := R.own i c h6
    rw [h5] at h7; cases h7
    exact ⟨p, h3, h8, h9, .inr ⟨i, h1, h6, h5⟩⟩
theorem arg_dat (R : Rel K F H σ fm) (V : VsRel K F H σ fm vs xs) (hA : argsOf vs fm = some as) {k : Nat} {d : PyData} (h : as[k]? = some (.dat d)) :
    ∃ x, xs[k]? = some x ∧ Dq K F x d := by
  obtain ⟨v, h1, h2⟩ := argsOf_get hA h
  obtain ⟨x, h3, h4⟩ := V.get h1
  cases v with
  | thr _ => exact h4.elim
  | dat d => cases h2; exact ⟨x, h3, h4⟩
  | fre c' => cases h2
  | bor i =>
    simp only [argOf] at h2
    obtain ⟨h5, s, h6⟩ := h4
    rw [h6] at h2
    cases h2
    obtain ⟨y, h7, h8⟩ := R.dat i d h6
    rw [h5] at h7; cases h7
    exact ⟨x, h3, h8⟩
theorem get_some {α : Type} {l : List α} {i : Nat} {a : α} (h : (l.map some)[i]? = some (some a)) : l[i]? = some a := by
  rw [List.getElem?_map] at h
  cases e : l[i]? with
  | none => rw [e] at h; cases h
  | some s => rw [e] at h; cases h; rfl
theorem some_get {α : Type} {l : List α} {i : Nat} {a : α} (h : l[i]? = some a) : (l.map some)[i]? = some (some a) := by
  rw [List.getElem?_map, h]; rfl
theorem args_rel (R : Rel K F H σ fm) (V : VsRel K F H σ fm vs xs) (hA : argsOf vs fm = some as) (nd : (bors vs).Nodup) : Rel K F H (sA xs) (fA as) := by
  refine ⟨R.sub, ?_, fun i d h => ?_, fun i c h => ?_, fun i j c c' p hne h1 h2 h3 h4 => ?_⟩
  · rw [List.length_map, List.length_map, argsOf_len hA, V.len]
  · obtain ⟨x, h1, h2⟩ := arg_dat R V hA (get_some h)
    exact ⟨x, some_get h1, h2⟩
  · obtain ⟨p, h1, h2, h3, _⟩ := arg_own R V hA (get_some h)
    exact ⟨p, some_get h1, h2, h3⟩
  · have key : ∀ {i j : Nat} {c c' : Cell}, i < j → as[i]? = some (.own c) → as[j]? = some (.own c') → xs[i]? = some (.ref p) → xs[j]? = some (.ref p) → False := fun {i j c c'} hl g1 g2 g3 g4 => by
      obtain ⟨p1, a1, a2, a3, a4⟩ := arg_own R V hA g1
      obtain ⟨p2, b1, b2, b3, b4⟩ := arg_own R V hA g2
      rw [g3] at a1; cases a1
      rw [g4] at b1; cases b1
      rcases a4 with ⟨u1, u2⟩ | ⟨ia, u1, u2, u3⟩ <;> rcases b4 with ⟨w1, w2⟩ | ⟨ib, w1, w2, w3⟩
      · exact V.apart hl u1 w1 g3 g4
      · exact u2 ⟨ib, _, w2, w3⟩
      · exact w2 ⟨ia, _, u2, u3⟩
      · exact R.apart ia ib c c' p (bors_apart nd hl u1 w1) u2 w2 u3 w3
    have e1 := get_some h1
    have e2 := get_some h2
    have e3 := get_some h3
    have e4 := get_some h4
    rcases Nat.lt_or_gt_of_ne hne with hl | hl
    · exact key hl e1 e2 e3 e4
    · exact key hl e2 e1 e4 e3
theorem wback_len : ∀ (vs : List SV) (outs : List S0) (fm : Fm), (wback vs outs fm).length = fm.length
  | [], _, _ => by simp [wback]
  | v :: vs, [], _ => by cases v <;> simp [wback]
  | v :: vs, o :: os, fm => by cases v <;> simp [wback, wback_len vs os fm]
theorem wback_out : ∀ {vs : List SV} {outs : List S0} {j : Nat}, (∀ k : Nat, vs[k]? ≠ some (.bor j)) → (wback vs outs fm)[j]? = fm[j]?
  | [], _, _, _ => by simp [wback]
  | v :: vs, [], _, _ => by cases v <;> simp [wback]
  | v :: vs, o :: os, j, h => by
    have ih := wback_out (vs := vs) (outs := os) (j := j) fun k => by simpa using h (k + 1)
    cases v with
    | dat d => simpa [wback] using ih
    | fre d => simpa [wback] using ih
    | thr d => simpa [wback] using ih
    | bor i =>
      have ne : i ≠ j := fun e => h 0 (by subst e; rfl)
      simp only [wback]
      rw [List.getElem?_set_ne ne]
      exact ih
theorem wback_in : ∀ {vs : List SV} {outs : List S0} {j k : Nat} {o : S0}, (bors vs).Nodup → vs[k]? = some (.bor j) → outs[k]? = some o → j < fm.length → (wback vs outs fm)[j]? = some (some o)
  | [], _, _, _, _, _, h, _, _ => by simp at h
  | v :: vs, [], _, _, _, _, _, h, _ => by simp at h
  | v :: vs, o :: os, j, 0, o', nd, h1, h2, hl => by
    simp at h1 h2; subst h1 h2
    simp only [wback]
    exact List.getElem?_set_self (by rw [wback_len]; exact hl)
  | v :: vs, o :: os, j, k + 1, o', nd, h1, h2, hl => by
    have nd' : (bors vs).Nodup := by
      cases v <;> simp [bors] at nd
      · exact nd
      · exact nd
      · exact nd.2
      · exact nd
    have ih := wback_in (vs := vs) (outs := os) (j := j) (k := k) nd' (by simpa using h1) (by simpa using h2) hl
    cases v with
    | dat d => simpa [wback] using ih
    | fre d => simpa [wback] using ih
    | thr d => simpa [wback] using ih
    | bor i =>
      have ne : i ≠ j := bors_apart (j := 0) (k := k + 1) nd (by omega) rfl h1
      simp only [wback]
      rw [List.getElem?_set_ne ne]
      exact ih
theorem wback_cases (nd : (bors vs).Nodup) (hl : outs.length = vs.length) (j : Nat) (hj : j < fm.length) :
    (∃ (k : Nat) (o : S0), vs[k]? = some (.bor j) ∧ outs[k]? = some o ∧ (wback vs outs fm)[j]? = some (some o)) ∨ ((∀ k : Nat, vs[k]? ≠ some (.bor j)) ∧ (wback vs outs fm)[j]? = fm[j]?) := by
  by_cases h : ∃ k : Nat, vs[k]? = some (.bor j)
  · obtain ⟨k, hk⟩ := h
    have hkl : k < outs.length := by
      obtain ⟨z, _⟩ := List.getElem?_eq_some_iff.mp hk
      rw [hl]; exact z
    exact .inl ⟨k, outs[k], hk, by simp [hkl], wback_in nd hk (by simp [hkl]) hj⟩
  · have h' : ∀ k : Nat, vs[k]? ≠ some (.bor j) := fun k e => h ⟨k, e⟩
    exact .inr ⟨h', wback_out h'⟩
theorem call_aft (A : Aft K σ F0 H0 fm0 F H fm) (V : VsRel K F H σ fm vs xs) (N : VsNew H0 vs xs) (hA : argsOf vs fm = some as) (nd : (bors vs).Nodup) (B : Aft K (sA xs) F H (fA as) F' H' (fA outs)) :
    Aft K σ F0 H0 fm0 F' H' (wback vs outs fm) ∧ (∀ p, Live σ (wback vs outs fm) p → Live σ fm p ∨ Live (sA xs) (fA outs) p) := by
  have R := A.rel
  have hol : outs.length = vs.length := by
    have := B.rel.len
    rw [List.length_map, List.length_map] at this
    rw [this, V.len]
  have lv : ∀ p, Live (sA xs) (fA as) p → Live σ fm0 p ∨ H0 p = none := fun p h => by
    obtain ⟨k, c, h1, h2⟩ := live_args h
    obtain ⟨q, h3, h4, h5, h6⟩ := arg_own R V hA h1
    rw [h2] at h3; cases h3
    rcases h6 with ⟨h6, _⟩ | ⟨i, h6, h7, h8⟩
    · exact .inr (N.get h6 h2 p rfl)
    · exact A.ext.live p ⟨i, c, h7, h8⟩
  have slot : ∀ {j : Nat} {s : S0}, (wback vs outs fm)[j]? = some (some s) → (∃ (k : Nat) (x : L2.V), vs[k]? = some (.bor j) ∧ outs[k]? = some s ∧ xs[k]? = some x ∧ σ[j]? = some (some x)) ∨ ((∀ k : Nat, vs[k]? ≠ some (.bor j)) ∧ fm[j]? = some (some s)) := fun {j s} h => by
    have hj : j < fm.length := by
      obtain ⟨z, _⟩ := List.getElem?_eq_some_iff.mp h
      rwa [wback_len] at z
    rcases wback_cases nd hol j hj with ⟨k, o, h1, h2, h3⟩ | ⟨h1, h2⟩
    · rw [h] at h3; cases h3
      obtain ⟨x, h4, h5⟩ := V.get h1
      exact .inl ⟨k, x, h1, h2, h4, h5.1⟩
    · rw [h] at h2; exact .inr ⟨h1, h2.symm⟩
  have live2 : ∀ p, Live σ (wback vs outs fm) p → Live σ fm p ∨ Live (sA xs) (fA outs) p := fun p ⟨j, c, h1, h2⟩ => by
    rcases slot h1 with ⟨k, x, a1, a2, a3, a4⟩ | ⟨a1, a2⟩
    · rw [h2] at a4; cases a4
      exact .inr (args_live a2 a3)
    · exact .inl ⟨j, c, a2, h2⟩
  -- an own slot that was not handed over
  have kept : ∀ {j : Nat} {c : Cell} {p : Addr}, (∀ k : Nat, vs[k]? ≠ some (.bor j)) → fm[j]? = some (some (.own c)) → σ[j]? = some (some (.ref p)) → ¬ Live (sA xs) (fA as) p := fun {j c p} hn h1 h2 h => by
    obtain ⟨k, c', h3, h4⟩ := live_args h
    obtain ⟨q, h5, h6, h7, h8⟩ := arg_own R V hA h3
    rw [h4] at h5; cases h5
    rcases h8 with ⟨_, h8⟩ | ⟨i, h8, h9, h10⟩
    · exact h8 ⟨j, c, h1, h2⟩
    · by_cases e : i = j
      · subst e; exact hn k h8
      · exact R.apart i j c' c p e h9 h1 h10 h2
  refine ⟨⟨⟨A.ext.same.trans B.ext.same, fun a o hl h => ?_, fun a o h => ?_, fun a h => ?_, fun a h => A.ext.grow a (B.ext.grow a h)⟩, fun i s h => ?_, ⟨B.rel.sub, ?_, fun j d h => ?_, fun j c h => ?_, fun i j c c' p hne h1 h2 h3 h4 => ?_⟩⟩, live2⟩
  · refine B.ext.keep a o (fun q => ?_) (A.ext.keep a o hl h)
    rcases lv a q with q | q
    · exact hl q
    · rw [h] at q; cases q
  · rcases B.ext.new a o h with q | q | q
    · exact A.ext.new a o q
    · exact .inr (.inl (A.ext.grow a q))
    · rcases lv a q with q | q
      · exact .inr (.inr q)
      · exact .inr (.inl q)
  · rcases live2 a h with q | q
    · exact A.ext.live a q
    · rcases B.ext.live a q with q | q
      · exact lv a q
      · exact .inr (A.ext.grow a q)
  · obtain ⟨s1, h1⟩ := A.kp i s h
    have hj : i < fm.length := by
      obtain ⟨z, _⟩ := List.getElem?_eq_some_iff.mp h1
      exact z
    rcases wback_cases nd hol i hj with ⟨k, o, _, _, h3⟩ | ⟨_, h2⟩
    · exact ⟨o, h3⟩
    · exact ⟨s1, by rw [h2]; exact h1⟩
  · rw [wback_len]; exact R.len
  · rcases slot h with ⟨k, x, a1, a2, a3, a4⟩ | ⟨a1, a2⟩
    · obtain ⟨y, b1, b2⟩ := B.rel.dat k d (some_get a2)
      rw [some_get a3] at b1; cases b1
      exact ⟨x, a4, b2⟩
    · obtain ⟨y, b1, b2⟩ := R.dat j d a2
      exact ⟨y, b1, dp_mono B.ext.same b2⟩
  · rcases slot h with ⟨k, x, a1, a2, a3, a4⟩ | ⟨a1, a2⟩
    · obtain ⟨p, b1, b2, b3⟩ := B.rel.own k c (some_get a2)
      rw [some_get a3] at b1; cases b1
      exact ⟨p, a4, b2, b3⟩
    · obtain ⟨p, b1, b2, b3⟩ := R.own j c a2
      have nl := kept a1 a2 b1
      obtain ⟨o, ho⟩ := b3.some'
      refine ⟨p, b1, ?_, b3.mono B.ext.same fun o h => B.ext.keep p o nl h⟩
      cases q : F' p with
      | none => rfl
      | some u =>
        rcases B.ext.new p u q with z | z | z
        · rw [b2] at z; cases z
        · rw [ho] at z; cases z
        · exact absurd z nl
  · have old : ∀ {i j k : Nat} {c c' : Cell} {x : L2.V}, vs[k]? = some (.bor i) → outs[k]? = some (.own c) → xs[k]? = some x → σ[i]? = some (some x) → (∀ k : Nat, vs[k]? ≠ some (.bor j)) → fm[j]? = some (some (.own c')) → σ[i]? = some (some (.ref p)) → σ[j]? = some (some (.ref p)) → False := fun {i j k c c' x} a1 a2 a3 a4 b1 b2 g3 g4 => by
      rw [g3] at a4; cases a4
      have nl := kept b1 b2 g4
      obtain ⟨q, c1, c2, c3⟩ := R.own j c' b2
      rw [g4] at c1; cases c1
      obtain ⟨o, ho⟩ := c3.some'
      rcases B.ext.live p (args_live a2 a3) with z | z
      · exact nl z
      · rw [ho] at z; cases z
    rcases slot h1 with ⟨k, x, a1, a2, a3, a4⟩ | ⟨a1, a2⟩ <;> rcases slot h2 with ⟨k', x', b1, b2, b3, b4⟩ | ⟨b1, b2⟩
    · rw [h3] at a4; cases a4
      rw [h4] at b4; cases b4
      have hk : k ≠ k' := fun e => by subst e; rw [a1] at b1; cases b1; exact hne rfl
      exact B.rel.apart k k' c c' p hk (some_get a2) (some_get b2) (some_get a3) (some_get b3)
    · exact old a1 a2 a3 a4 b1 b2 h3 h4
    · exact old b1 b2 b3 b4 a1 a2 h4 h3
    · exact R.apart i j c c' p hne a2 b2 h3 h4
theorem call_val {v : SV} {x : V} (A1 : Aft K σ F0 H0 fm0 F1 H1 fm1) (L3 : ∀ p, Live σ (wback vs outs fm1) p → Live σ fm1 p ∨ Live (sA xs) (fA outs) p) (nb : ∀ j, v ≠ .bor j) (V2 : VRel K F' H' (sA xs) (fA outs) v x) (N2 : VNew H1 v x) : VRel K F' H' σ (wback vs outs fm1) v x := by
  cases v with
  | thr _ => exact V2.elim
  | dat d => exact V2
  | bor j => exact absurd rfl (nb j)
  | fre c =>
    obtain ⟨p, rfl, hf, hc, hl⟩ := V2
    refine ⟨p, rfl, hf, hc, fun z => ?_⟩
    rcases L3 p z with z | z
    · exact A1.rel.nolive (N2 p rfl) z
    · exact hl z
theorem tE_call {D : Dm} {ma : MA} {E : XK} {Q : VK} (h : tE K (mCall D ma) σ H Q) : tA K ma σ H fun xs H1 => spM K D xs H1 Q E := by
  obtain ⟨F, fm, v, fm', R, em, q⟩ := h
  obtain ⟨vs, fm1, as, outs, e1, e2, nd, e3, nb, nt, rfl⟩ := mCall_inv em
  refine ⟨F, fm, vs, fm1, R, e1, fun xs F1 H1 A1 V1 N1 => ?_⟩
  refine ⟨F1, as, v, outs, args_rel A1.rel V1 e2 nd, e3, fun x F2 H2 A2 V2 N2 => ?_, fun xc e => absurd e (nt xc)⟩
  obtain ⟨A3, L3⟩ := call_aft A1 V1 N1 e2 nd A2
  exact q x F2 H2 A3 (call_val A1 L3 nb V2 N2) (A1.new N2)
theorem tX_call {D : Dm} {ma : MA} {W : WX} {Q : VK} (h : tX K W (mCallX D ma) σ H Q) : tA K ma σ H fun xs H1 => spM K D xs H1 Q (WE W σ) := by
  obtain ⟨F, fm, v, fm', R, em, q, qx⟩ := h
  obtain ⟨vs, fm1, as, outs, e1, e2, nd, e3, nb, rfl⟩ := mCallX_inv em
  refine ⟨F, fm, vs, fm1, R, e1, fun xs F1 H1 A1 V1 N1 => ?_⟩
  refine ⟨F1, as, v, outs, args_rel A1.rel V1 e2 nd, e3, fun x F2 H2 A2 V2 N2 => ?_, fun xc e cls d F2 H2 A2 xr xn => ?_⟩
  · obtain ⟨A3, L3⟩ := call_aft A1 V1 N1 e2 nd A2
    exact q x F2 H2 A3 (call_val A1 L3 nb V2 N2) (A1.new N2)
  · obtain ⟨A3, L3⟩ := call_aft A1 V1 N1 e2 nd A2
    exact qx xc e cls d F2 H2 A3 xr (xn.back A1.ext)
end
end Rf

namespace Rf
open PySem L2

def outAt (ro : List Nat) (i : Nat) (a : S0) (fm : Fm) : Option S0 := if i ∈ ro then (match fm[i]? with
    | some (some s) => some s
    | _ => none)
  else match a with
    | .dat d => some (.dat d)
    | _ => none
def outsFrom (ro : List Nat) (fm : Fm) : Nat → List S0 → Option (List S0)
  | _, [] => some []
  | i, a :: as => match outAt ro i a fm with
    | some o => match outsFrom ro fm (i + 1) as with
      | some os => some (o :: os)
      | none => none
    | none => none
def ownsStay (fm : Fm) : Nat → List S0 → Bool
  | _, [] => true
  | i, .dat _ :: as => ownsStay fm (i + 1) as
  | i, .own _ :: as => match fm[i]? with
    | some (some (.own _)) => ownsStay fm (i + 1) as
    | _ => false
def retv (as : List S0) (v : SV) (fm : Fm) : Option (SV × Fm) := match v with
  | .dat d => some (.dat d, fm)
  | .fre c => some (.fre c, fm)
  | .bor j => if j < as.length then (match frz (.bor j) fm with
      | some (d, fm1) => some (.dat d, fm1)
      | none => none)
    else match fm[j]? with
      | some (some (.own c)) => if ownsStay fm 0 as then some (.fre c, fm.set j none) else none
      | some (some (.dat d)) => some (.dat d, fm)
      | _ => none
  | .thr _ => none
def mkD (n N : Nat) (ro : List Nat) (m : MS) : Dm := fun as => if as.length = n then (match m (as.map some ++ List.replicate (N - n) none) with
    | some (.rt v, fm1) => match retv as v fm1 with
      | some (r, fm2) => match outsFrom ro fm2 0 as with
        | some outs => some (r, outs)
        | none => none
      | none => none
    | some (.nx, fm1) => match outsFrom ro fm1 0 as with
      | some outs => some (.dat .none, outs)
      | none => none
    | some (.ex x, fm1) => match outsFrom ro fm1 0 as with
      | some outs => some (.thr x, outs)
      | none => none
    | _ => none) else none
section
variable {K : PySem.W.Frag} {F F' F0 F1 H H' H0 H1 : Hp} {σ σ' σ0 : L2.St} {fm fm0 fm1 fm' : Fm} {vs : List SV} {xs : List L2.V} {as outs : List S0} {ro : List Nat}
theorem outsFrom_len : ∀ {as outs : List S0} {i : Nat}, outsFrom ro fm i as = some outs → outs.length = as.length
  | [], _, _, h => by cases h; rfl
  | a :: as, outs, i, h => by
    simp only [outsFrom] at h
    split at h
    · split at h
      · rename_i os e
        cases h
        simp [outsFrom_len e]
      · cases h
    · cases h
theorem outsFrom_get : ∀ {as outs : List S0} {i k : Nat} {o : S0}, outsFrom ro fm i as = some outs → outs[k]? = some o → ∃ a, as[k]? = some a ∧ outAt ro (i + k) a fm = some o
  | [], _, _, _, _, h, e => by cases h; simp at e
  | a :: as, outs, i, k, o, h, e => by
    simp only [outsFrom] at h
    split at h
    · rename_i o1 e1
      split at h
      · rename_i os e2
        cases h
        cases k with
        | zero => simp at e; subst e; exact ⟨a, rfl, e1⟩
        | succ k =>
          obtain ⟨b, h1, h2⟩ := outsFrom_get (k := k) e2 (by simpa using e)
          refine ⟨b, by simpa using h1, ?_⟩
          rw [show i + (k + 1) = i + 1 + k by omega]
          exact h2
      · cases h
    · cases h
theorem outAt_cases {i : Nat} {a o : S0} (h : outAt ro i a fm = some o) : (i ∈ ro ∧ fm[i]? = some (some o)) ∨ (∃ d, a = .dat d ∧ o = .dat d) := by
  unfold outAt at h
  split at h
  · rename_i hi
    split at h
    · rename_i s e
      cases h
      exact .inl ⟨hi, e⟩
    · cases h
  · split at h
    · rename_i d
      cases h
      exact .inr ⟨d, rfl, rfl⟩
    · cases h
theorem ownsStay_get : ∀ {as : List S0} {i k : Nat} {c : Cell}, ownsStay fm i as = true → as[k]? = some (.own c) → ∃ c', fm[i + k]? = some (some (.own c'))
  | [], _, _, _, _, e => by simp at e
  | .dat d :: as, i, 0, c, h, e => by simp at e
  | .dat d :: as, i, k + 1, c, h, e => by
    obtain ⟨c', h1⟩ := ownsStay_get (k := k) (show ownsStay fm (i + 1) as = true from h) (by simpa using e)
    exact ⟨c', by rw [show i + (k + 1) = i + 1 + k by omega]; exact h1⟩
  | .own c0 :: as, i, k, c, h, e => by
    simp only [ownsStay] at h
    split at h
    · rename_i c1 e1
      cases k with
      | zero => exact ⟨c1, e1⟩
      | succ k =>
        obtain ⟨c', h1⟩ := ownsStay_get (k := k) h (by simpa using e)
        exact ⟨c', by rw [show i + (k + 1) = i + 1 + k by omega]; exact h1⟩
    · cases h
theorem pad_get {α : Type} {l : List α} {n i : Nat} {a : α} (h : (l.map some ++ List.replicate n none)[i]? = some (some a)) : l[i]? = some a := by
  by_cases hi : i < l.length
  · rw [List.getElem?_append_left (by simpa using hi)] at h
    exact get_some h
  · rw [List.getElem?_append_right (by simpa using hi)] at h
    rw [List.getElem?_replicate] at h
    split at h <;> cases h
theorem get_pad {α : Type} {l : List α} {n i : Nat} {a : α} (h : l[i]? = some a) : (l.map some ++ List.replicate n none)[i]? = some (some a) := by
  have hi : i < l.length := by
    obtain ⟨z, _⟩ := List.getElem?_eq_some_iff.mp h
    exact z
  rw [List.getElem?_append_left (by simpa using hi)]
  exact some_get h
theorem start_rel {n : Nat} (R : Rel K F H (sA xs) (fA as)) : Rel K F H (xs.map some ++ List.replicate n none) (as.map some ++ List.replicate n none) := by
  refine ⟨R.sub, ?_, fun i d h => ?_, fun i c h => ?_, fun i j c c' p hne h1 h2 h3 h4 => ?_⟩
  · have := R.len
    rw [List.length_map, List.length_map] at this
    simp [this]
  · obtain ⟨v, h1, h2⟩ := R.dat i d (some_get (pad_get h))
    exact ⟨v, get_pad (get_some h1), h2⟩
  · obtain ⟨v, h1, h2⟩ := R.own i c (some_get (pad_get h))
    exact ⟨v, get_pad (get_some h1), h2⟩
  · exact R.apart i j c c' p hne (some_get (pad_get h1)) (some_get (pad_get h2)) (some_get (pad_get h3)) (some_get (pad_get h4))
theorem live_pad {n : Nat} {p : Addr} (h : Live (xs.map some ++ List.replicate n none) (as.map some ++ List.replicate n none) p) : Live (sA xs) (fA as) p := by
  obtain ⟨i, c, h1, h2⟩ := h
  exact ⟨i, c, some_get (pad_get h1), some_get (pad_get h2)⟩
theorem leave_ok {n : Nat} (R0 : Rel K F H (sA xs) (fA as)) (E : Ext (Live (sA xs) (fA as)) F H (Live σ' fm1) F' H') (R : Rel K F' H' σ' fm1) (pin : ∀ i ∈ ro, σ'[i]? = (xs.map some ++ List.replicate n none)[i]?) (ho : outsFrom ro fm1 0 as = some outs) :
    Aft K (sA xs) F H (fA as) F' H' (fA outs) ∧ (∀ p, Live (sA xs) (fA outs) p → Live σ' fm1 p) := by
  have hl : as.length = xs.length := by
    have := R0.len
    rwa [List.length_map, List.length_map] at this
  have hol := outsFrom_len ho
  have at' : ∀ {k : Nat} {o : S0}, outs[k]? = some o → (fm1[k]? = some (some o) ∧ ∃ x, xs[k]? = some x ∧ σ'[k]? = some (some x)) ∨ (∃ d, as[k]? = some (.dat d) ∧ o = .dat d) := fun {k o} h => by
    obtain ⟨a, h1, h2⟩ := outsFrom_get ho h
    rw [Nat.zero_add] at h2
    rcases outAt_cases h2 with ⟨h3, h4⟩ | ⟨d, rfl, rfl⟩
    · have hk : k < xs.length := by
        obtain ⟨z, _⟩ := List.getElem?_eq_some_iff.mp h
        omega
      refine .inl ⟨h4, xs[k], by simp [hk], ?_⟩
      rw [pin k h3]
      exact get_pad (by simp [hk])
    · exact .inr ⟨d, h1, rfl⟩
  have live' : ∀ p, Live (sA xs) (fA outs) p → Live σ' fm1 p := fun p h => by
    obtain ⟨k, c, h1, h2⟩ := live_args h
    rcases at' h1 with ⟨h3, x, h4, h5⟩ | ⟨d, _, h3⟩
    · rw [h2] at h4; cases h4
      exact ⟨k, c, h3, h5⟩
    · cases h3
  refine ⟨⟨⟨E.same, E.keep, E.new, fun p h => E.live p (live' p h), E.grow⟩, fun i s h => ?_, ⟨R.sub, ?_, fun i d h => ?_, fun i c h => ?_, fun i j c c' p hne h1 h2 h3 h4 => ?_⟩⟩, live'⟩
  · have hi : i < outs.length := by
      obtain ⟨z, _⟩ := List.getElem?_eq_some_iff.mp (get_some h)
      omega
    exact ⟨outs[i], some_get (by simp [hi])⟩
  · simp; omega
  · rcases at' (get_some h) with ⟨h3, x, h4, h5⟩ | ⟨d', h3, h4⟩
    · obtain ⟨y, h6, h7⟩ := R.dat i d h3
      rw [h5] at h6; cases h6
      exact ⟨x, some_get h4, h7⟩
    · cases h4
      obtain ⟨y, h6, h7⟩ := R0.dat i d (some_get h3)
      exact ⟨y, h6, dp_mono E.same h7⟩
  · rcases at' (get_some h) with ⟨h3, x, h4, h5⟩ | ⟨d', h3, h4⟩
    · obtain ⟨p, h6, h7⟩ := R.own i c h3
      rw [h5] at h6; cases h6
      exact ⟨p, some_get h4, h7⟩
    · cases h4
  · rcases at' (get_some h1) with ⟨a3, x, a4, a5⟩ | ⟨d', a3, a4⟩
    · rcases at' (get_some h2) with ⟨b3, y, b4, b5⟩ | ⟨d', b3, b4⟩
      · rw [some_get a4] at h3; cases h3
        rw [some_get b4] at h4; cases h4
        exact R.apart i j c c' p hne a3 b3 a5 b5
      · cases b4
    · cases a4
theorem Rel.drop {j : Nat} (R : Rel K F H σ fm) : Rel K F H σ (fm.set j none) := by
  have f : ∀ {i : Nat} {s : S0}, (fm.set j none)[i]? = some (some s) → fm[i]? = some (some s) := fun {i s} h => by
    rcases get_set h with ⟨rfl, e, _⟩ | ⟨ne, h⟩
    · cases e
    · exact h
  exact ⟨R.sub, by rw [List.length_set]; exact R.len, fun i d h => R.dat i d (f h), fun i c h => R.own i c (f h), fun i k c c' p hne h1 h2 => R.apart i k c c' p hne (f h1) (f h2)⟩
theorem live_drop {j : Nat} {p : Addr} (h : Live σ (fm.set j none) p) : Live σ fm p := by
  obtain ⟨i, c, h1, h2⟩ := h
  rcases get_set h1 with ⟨rfl, e, _⟩ | ⟨ne, h1⟩
  · cases e
  · exact ⟨i, c, h1, h2⟩
theorem body_ok {n N : Nat} {m : MS} {r : SV} {x : Str} {Q : VK} {E : XK} (R0 : Rel K F H (sA xs) (fA as)) (hn : as.length = n)
    (hx : ∀ x F' H', Aft K (sA xs) F H (fA as) F' H' (fA outs) → VRel K F' H' (sA xs) (fA outs) r x → VNew H r x → Q x H')
    (hxx : ∀ xc, r = .thr xc → ∀ cls d F' H', Aft K (sA xs) F H (fA as) F' H' (fA outs) → XRel K F' H' xc cls d → XNew H d → E cls d H')
    (h : mkD n N ro m as = some (r, outs)) (hro : ∀ i ∈ ro, i < n) : tS K (fun cls d _ H' => E cls d H') ro m { nx := fun _ H' => Q .non H', rt := Q } (xs.map some ++ List.replicate (N - n) none) H := by
  unfold mkD at h
  rw [if_pos hn] at h
  have hl : as.length = xs.length := by
    have := R0.len
    rwa [List.length_map, List.length_map] at this
  have S := start_rel (n := N - n) R0
  split at h
  · rename_i v fm1 e1
    split at h
    · rename_i r' fm2 e2
      split at h
      · rename_i outs' e3
        cases h
        refine ⟨F, _, _, fm1, S, e1, fun σ' F' H' A y V Nw => ?_⟩
        have Ex : Ext (Live (sA xs) (fA as)) F H (Live σ' fm1) F' H' := ⟨A.ext.same, fun a o hl h => A.ext.keep a o (fun q => hl (live_pad q)) h, fun a o h => by
          rcases A.ext.new a o h with q | q | q
          · exact .inl q
          · exact .inr (.inl q)
          · exact .inr (.inr (live_pad q)), fun a h => by
          rcases A.ext.live a h with q | q
          · exact .inl (live_pad q)
          · exact .inr q, A.ext.grow⟩
        cases v with
        | thr _ => exact V.elim
        | dat d =>
          cases e2
          obtain ⟨B, L⟩ := leave_ok R0 Ex A.rel A.pin e3
          exact hx y F' H' B V VNew.dat
        | fre c =>
          cases e2
          obtain ⟨B, L⟩ := leave_ok R0 Ex A.rel A.pin e3
          obtain ⟨p, rfl, hf, hc, hnl⟩ := V
          exact hx _ F' H' B ⟨p, rfl, hf, hc, fun z => hnl (L p z)⟩ Nw
        | bor j =>
          simp only [retv] at e2
          split at e2
          · split at e2
            · rename_i d fm3 e4
              cases e2
              obtain ⟨F2, E2, _, s2, R2, D2, k2, _⟩ := frz_ok Ex A.rel V Nw e4
              obtain ⟨B, L⟩ := leave_ok R0 E2 R2 A.pin e3
              exact hx y F2 H' B D2 VNew.dat
            · cases e2
          · rename_i hj
            split at e2
            · rename_i c ec
              split at e2
              · rename_i hs
                cases e2
                obtain ⟨p, h1, hf, hc⟩ := A.rel.own j c ec
                obtain ⟨h2, _⟩ := V
                rw [h1] at h2; cases h2
                have E2 : Ext (Live (sA xs) (fA as)) F H (Live σ' (fm1.set j none)) F' H' := ⟨Ex.same, Ex.keep, Ex.new, fun a h => Ex.live a (live_drop h), Ex.grow⟩
                have hjl : j < fm1.length := by
                  obtain ⟨z, _⟩ := List.getElem?_eq_some_iff.mp ec
                  exact z
                obtain ⟨B, L⟩ := leave_ok R0 E2 A.rel.drop A.pin e3
                refine hx _ F' H' B ⟨p, rfl, hf, hc, fun z => ?_⟩ fun q e => ?_
                · obtain ⟨i, c', a1, a2⟩ := L p z
                  rcases get_set a1 with ⟨rfl, e, _⟩ | ⟨ne, a1⟩
                  · cases e
                  · exact A.rel.apart j i c c' p ne ec a1 h1 a2
                · cases e
                  rcases Ex.live p ⟨j, c, ec, h1⟩ with z | z
                  · obtain ⟨k, c', a1, a2⟩ := live_args z
                    obtain ⟨c2, a3⟩ := ownsStay_get hs a1
                    rw [Nat.zero_add] at a3
                    have hk : k < as.length := by
                      obtain ⟨z, _⟩ := List.getElem?_eq_some_iff.mp a1
                      exact z
                    obtain ⟨o, ho⟩ : ∃ o, outs[k]? = some o := by
                      have := outsFrom_len e3
                      exact ⟨outs[k]'(by omega), by simp⟩
                    obtain ⟨a, b1, b2⟩ := outsFrom_get e3 ho
                    rw [Nat.zero_add] at b2
                    rw [a1] at b1; cases b1
                    rcases outAt_cases b2 with ⟨b3, b4⟩ | ⟨d, b3, _⟩
                    · have : σ'[k]? = some (some (.ref p)) := by
                        rw [A.pin k b3]; exact get_pad a2
                      exact absurd this (A.rel.apart j k c c2 p (by omega) ec a3 h1)
                    · cases b3
                  · exact z
              · cases e2
            · rename_i d ed
              cases e2
              obtain ⟨z, h1, h2⟩ := A.rel.dat j d ed
              obtain ⟨h3, _⟩ := V
              rw [h1] at h3; cases h3
              obtain ⟨B, L⟩ := leave_ok R0 Ex A.rel A.pin e3
              exact hx _ F' H' B h2 VNew.dat
            · cases e2
      · cases h
    · cases h
  · rename_i fm1 e1
    split at h
    · rename_i outs' e3
      cases h
      refine ⟨F, _, _, fm1, S, e1, fun σ' F' H' A => ?_⟩
      have Ex : Ext (Live (sA xs) (fA as)) F H (Live σ' fm1) F' H' := ⟨A.ext.same, fun a o hl h => A.ext.keep a o (fun q => hl (live_pad q)) h, fun a o h => by
        rcases A.ext.new a o h with q | q | q
        · exact .inl q
        · exact .inr (.inl q)
        · exact .inr (.inr (live_pad q)), fun a h => by
        rcases A.ext.live a h with q | q
        · exact .inl (live_pad q)
        · exact .inr q, A.ext.grow⟩
      obtain ⟨B, L⟩ := leave_ok R0 Ex A.rel A.pin e3
      exact hx _ F' H' B .non VNew.dat
    · cases h
  · rename_i xc fm1 e1
    split at h
    · rename_i outs' e3
      cases h
      refine ⟨F, _, _, fm1, S, e1, fun σ' F' H' A cls d xr xn => ?_⟩
      have Ex : Ext (Live (sA xs) (fA as)) F H (Live σ' fm1) F' H' := ⟨A.ext.same, fun a o hl h => A.ext.keep a o (fun q => hl (live_pad q)) h, fun a o h => by
        rcases A.ext.new a o h with q | q | q
        · exact .inl q
        · exact .inr (.inl q)
        · exact .inr (.inr (live_pad q)), fun a h => by
        rcases A.ext.live a h with q | q
        · exact .inl (live_pad q)
        · exact .inr q, A.ext.grow⟩
      obtain ⟨B, L⟩ := leave_ok R0 Ex A.rel A.pin e3
      exact hxx _ rfl cls d F' H' B xr xn
    · cases h
  · cases h
end
end Rf

namespace Rf
open PySem L2

def wipeF (fm : Fm) : List Nat → Fm
  | [] => fm
  | v :: vs => (wipeF fm vs).set v none
def unwipe (fm0 fm : Fm) : List Nat → Option Fm
  | [] => some fm
  | v :: vs => match unwipe fm0 fm vs with
    | none => none
    | some fm' => match fm0[v]? with
      | some (some (.dat d)) => some (fm'.set v (some (.dat d)))
      | some (some (.own _)) => none
      | _ => some (fm'.set v none)
def compM (g : MG) (mt : MT) (me : ME) (vs : List Nat) : List PyData → Fm → List PyData → Option (List PyData × Fm)
  | [], fm, acc => some (acc, fm)
  | d :: ds, fm, acc => match g d fm with
    | none => none
    | some fm1 => match mt fm1 with
      | none => none
      | some (false, fm2) => compM g mt me vs ds (wipeF fm2 vs) acc
      | some (true, fm2) => match me fm2 with
        | none => none
        | some (v, fm3) => match frz v fm3 with
          | none => none
          | some (d', fm4) => if acc.length < sizeLine then compM g mt me vs ds (wipeF fm4 vs) (acc ++ [d']) else none
def mLc (n : Nat) (mi : MI) (g : MG) (mt : MT) (me : ME) (vs : List Nat) : ME := fun fm => match mi fm with
  | none => none
  | some (ds, fm1) => if fm.length ≤ n then (match compM g mt me vs ds (wipeF fm1 vs) [] with
    | none => none
    | some (acc, fm2) => match unwipe fm1 fm2 vs with
      | none => none
      | some fm3 => some (.fre (.lst acc), fm3)) else none
def GOk (g : MG) : Prop := ∀ d fm fm', g d fm = some fm' → fm'.length = fm.length ∧ Keeps fm fm'
section
variable {K : PySem.W.Frag} {F F' F0 F1 H H' H0 H1 : Hp} {σ σ' σ0 : L2.St} {fm fm0 fm1 fm' : Fm}
theorem wipeF_len : ∀ vs : List Nat, (wipeF fm vs).length = fm.length
  | [] => rfl
  | v :: vs => by unfold wipeF; rw [List.length_set, wipeF_len vs]
theorem wipeF_some {i : Nat} {s : S0} : ∀ {vs : List Nat}, (wipeF fm vs)[i]? = some (some s) → fm[i]? = some (some s) ∧ i ∉ vs
  | [], h => ⟨h, by simp⟩
  | v :: vs, h => by
    unfold wipeF at h
    rcases get_set h with ⟨rfl, e, _⟩ | ⟨ne, h⟩
    · cases e
    · obtain ⟨h1, h2⟩ := wipeF_some h
      exact ⟨h1, by simp only [List.mem_cons, not_or]; exact ⟨fun e => ne e.symm, h2⟩⟩
theorem wipeF_out {i : Nat} : ∀ {vs : List Nat}, i ∉ vs → (wipeF fm vs)[i]? = fm[i]?
  | [], _ => rfl
  | v :: vs, h => by
    simp only [List.mem_cons, not_or] at h
    unfold wipeF
    rw [List.getElem?_set_ne fun e => h.1 e.symm]
    exact wipeF_out h.2
theorem wipe_in {i : Nat} : ∀ {vs : List Nat}, i ∈ vs → i < σ.length → (wipe σ vs)[i]? = some none
  | v :: vs, h, hl => by
    unfold wipe
    by_cases e : v = i
    · subst e; exact List.getElem?_set_self (by rw [wipe_length]; exact hl)
    · rw [List.getElem?_set_ne e]
      rcases List.mem_cons.mp h with h | h
      · exact absurd h.symm e
      · exact wipe_in h hl
theorem wipe_eq {vs : List Nat} (hl : σ'.length = σ.length) (h : ∀ i, i < σ.length → i ∉ vs → σ'[i]? = σ[i]?) : wipe σ' vs = wipe σ vs := by
  apply List.ext_getElem?
  intro i
  by_cases hi : i < σ.length
  · by_cases hv : i ∈ vs
    · rw [wipe_in hv hi, wipe_in hv (by omega)]
    · rw [wipe_out hv, wipe_out hv, h i hi hv]
  · rw [List.getElem?_eq_none (by rw [wipe_length]; omega), List.getElem?_eq_none (by rw [wipe_length]; omega)]
theorem Rel.wipe {vs : List Nat} (R : Rel K F H σ fm) : Rel K F H (L2.wipe σ vs) (wipeF fm vs) := by
  refine ⟨R.sub, by rw [wipeF_len, wipe_length]; exact R.len, fun i d h => ?_, fun i c h => ?_, fun i j c c' p hne h1 h2 h3 h4 => ?_⟩
  · obtain ⟨h1, h2⟩ := wipeF_some h
    rw [wipe_out h2]; exact R.dat i d h1
  · obtain ⟨h1, h2⟩ := wipeF_some h
    rw [wipe_out h2]; exact R.own i c h1
  · obtain ⟨a1, a2⟩ := wipeF_some h1
    obtain ⟨b1, b2⟩ := wipeF_some h2
    rw [wipe_out a2] at h3
    rw [wipe_out b2] at h4
    exact R.apart i j c c' p hne a1 b1 h3 h4
theorem live_wipe {vs : List Nat} {p : Addr} (h : Live (L2.wipe σ vs) (wipeF fm vs) p) : Live σ fm p := by
  obtain ⟨i, c, h1, h2⟩ := h
  obtain ⟨a1, a2⟩ := wipeF_some h1
  rw [wipe_out a2] at h2
  exact ⟨i, c, a1, h2⟩
theorem unwipe_len : ∀ {vs : List Nat} {fm' : Fm}, unwipe fm0 fm vs = some fm' → fm'.length = fm.length
  | [], _, h => by cases h; rfl
  | v :: vs, fm', h => by
    simp only [unwipe] at h
    split at h
    · cases h
    · rename_i f1 e1
      have := unwipe_len e1
      split at h <;> cases h <;> simpa using this
theorem unwipe_get {i : Nat} {s : S0} : ∀ {vs : List Nat} {fm' : Fm}, unwipe fm0 fm vs = some fm' → fm'[i]? = some (some s) → (i ∈ vs ∧ fm0[i]? = some (some s) ∧ ∃ d, s = .dat d) ∨ (i ∉ vs ∧ fm[i]? = some (some s))
  | [], _, h, e => by cases h; exact .inr ⟨by simp, e⟩
  | v :: vs, fm', h, e => by
    simp only [unwipe] at h
    split at h
    · cases h
    · rename_i f1 e1
      have go : ∀ {o : Option S0}, fm' = f1.set v o → (i = v ∧ o = some s) ∨ (i ≠ v ∧ ((i ∈ vs ∧ fm0[i]? = some (some s) ∧ ∃ d, s = .dat d) ∨ (i ∉ vs ∧ fm[i]? = some (some s)))) := fun {o} ef => by
        rw [ef] at e
        rcases get_set e with ⟨a1, a2, _⟩ | ⟨a1, a2⟩
        · exact .inl ⟨a1.symm, a2.symm⟩
        · exact .inr ⟨fun z => a1 z.symm, unwipe_get e1 a2⟩
      split at h
      · rename_i d ed
        cases h
        rcases go rfl with ⟨rfl, a2⟩ | ⟨a1, a2 | ⟨a2, a3⟩⟩
        · cases a2; exact .inl ⟨by simp, ed, d, rfl⟩
        · exact .inl ⟨List.mem_cons_of_mem _ a2.1, a2.2⟩
        · exact .inr ⟨by simp only [List.mem_cons, not_or]; exact ⟨a1, a2⟩, a3⟩
      · cases h
      · cases h
        rcases go rfl with ⟨rfl, a2⟩ | ⟨a1, a2 | ⟨a2, a3⟩⟩
        · cases a2
        · exact .inl ⟨List.mem_cons_of_mem _ a2.1, a2.2⟩
        · exact .inr ⟨by simp only [List.mem_cons, not_or]; exact ⟨a1, a2⟩, a3⟩
theorem unwipe_keep {i : Nat} {s : S0} : ∀ {vs : List Nat} {fm' : Fm}, unwipe fm0 fm vs = some fm' → fm0.length = fm.length → fm0[i]? = some (some s) → (i ∉ vs → ∃ s', fm[i]? = some (some s')) → ∃ s', fm'[i]? = some (some s')
  | [], _, h, _, e, k => by cases h; exact k (by simp)
  | v :: vs, fm', h, hl, e, k => by
    simp only [unwipe] at h
    split at h
    · cases h
    · rename_i f1 e1
      have hf1 := unwipe_len e1
      have hi : i < fm0.length := by
        obtain ⟨z, _⟩ := List.getElem?_eq_some_iff.mp e
        exact z
      by_cases hv : v = i
      · subst hv
        rw [e] at h
        cases s with
        | dat d =>
          cases h
          exact ⟨_, List.getElem?_set_self (by omega)⟩
        | own c => cases h
      · obtain ⟨s', hs'⟩ := unwipe_keep e1 hl e fun hn => k (by simp only [List.mem_cons, not_or]; exact ⟨fun z => hv z.symm, hn⟩)
        split at h
        · cases h; exact ⟨s', by rw [List.getElem?_set_ne hv]; exact hs'⟩
        · cases h
        · cases h; exact ⟨s', by rw [List.getElem?_set_ne hv]; exact hs'⟩
theorem Rel.updD {D : Addr} {o : HO} (R : Rel K F H σ fm) (hf : F D = none) (hl : ¬ Live σ fm D) : Rel K F (upd H D o) σ fm := by
  refine ⟨fun b u q => ?_, R.len, R.dat, fun i c h => ?_, R.apart⟩
  · have ne : b ≠ D := fun e => by subst e; rw [hf] at q; cases q
    rw [upd_ne ne]; exact R.sub _ _ q
  · obtain ⟨p, h1, h2, h3⟩ := R.own i c h
    have ne : p ≠ D := fun e => hl (by subst e; exact ⟨i, c, h, h1⟩)
    exact ⟨p, h1, h2, h3.mono (Same.refl _) fun u q => by rw [upd_ne ne]; exact q⟩
theorem Ext.outF {L L' : Addr → Prop} {D : Addr} {o : HO} (E : Ext L F H L' F' H') (hf : F D = none) (hl : ¬ L D) (ho : H D = some o) : F' D = none ∧ ¬ L' D ∧ H' D = some o := by
  refine ⟨?_, fun q => ?_, E.keep D o hl ho⟩
  · cases q : F' D with
    | none => rfl
    | some u =>
      rcases E.new D u q with z | z | z
      · rw [hf] at z; cases z
      · rw [ho] at z; cases z
      · exact absurd z hl
  · rcases E.live D q with z | z
    · exact hl z
    · rw [ho] at z; cases z
structure CompAt (K : PySem.W.Frag) (σ : L2.St) (F H : Hp) (fm1 : Fm) (vs : List Nat) (F1 : Hp) (D : Addr) (Hc : Hp) (fmc : Fm) (acc : List PyData) : Prop where
  at' : ∃ Fc accV, Ext (Live σ fm1) F1 H (Live (L2.wipe σ vs) fmc) Fc Hc ∧ Rel K Fc Hc (L2.wipe σ vs) fmc ∧ Fc D = none ∧ ¬ Live (L2.wipe σ vs) fmc D ∧ Hc D = some (.lst accV) ∧ DqAll K Fc accV acc
  len : fmc.length = fm1.length
  kp : ∀ i s, i ∉ vs → fm1[i]? = some (some s) → ∃ s', fmc[i]? = some (some s')
theorem tE_lc {Rl : RLT} {n : Nat} {mi : MI} {ro : List Nat} {g : MG} {mt : MT} {me : ME} {vs : List Nat} {Q : VK} (hg : GOk g) (hro : ∀ i, i < n → i ∈ ro ∨ i ∈ vs) (h : tE K (mLc n mi g mt me vs) σ H Q) : tLc (tI K Rl mi) (tG K Rl ro g) (tT K mt) (tE K me) vs σ H Q := by
  obtain ⟨F, fm, v, fm', R, em, q⟩ := h
  unfold mLc at em
  split at em
  · cases em
  · rename_i ds fm1 e1
    split at em
    · rename_i hn
      split at em
      · cases em
      · rename_i acc fm2 e2
        split at em
        · cases em
        · rename_i fm3 e3
          cases em
          refine ⟨F, fm, ds, fm1, R, e1, fun J F1 H1 A1 IO D hD => ?_⟩
          have hσn : σ.length ≤ n := by rw [← R.len]; exact hn
          refine ⟨fun i m Hc => m = ds.length - i ∧ i ≤ ds.length ∧ ∃ fmc accc, CompAt K σ F H1 fm1 vs F1 D Hc fmc accc ∧ Same F1 F1 ∧ compM g mt me vs (ds.drop i) fmc accc = some (acc, fm2), ⟨ds.length, rfl, Nat.zero_le _, wipeF fm1 vs, [], ⟨⟨F1, [], ?_, ?_, ?_, ?_, upd_same, .nil⟩, wipeF_len _, fun i s hi h => ⟨s, by rw [wipeF_out hi]; exact h⟩⟩, Same.refl _, e2⟩, ?_⟩
          · have a := (Aft.lay (o := HO.lst []) A1.rel hD)
            exact ⟨Same.refl _, a.ext.keep, a.ext.new, fun p h => .inl (live_wipe h), a.ext.grow⟩
          · exact (Aft.lay A1.rel hD).rel.wipe
          · exact A1.rel.fnone hD
          · exact fun z => A1.rel.nolive hD (live_wipe z)
          · rintro i m Hc ⟨rfl, hi, fmc, accc, ⟨⟨Fc, accV, E, Rc, hfD, hlD, hHD, hacc⟩, hlen, hkp⟩, _, el⟩
            by_cases hlt : i < ds.length
            · refine .inr ⟨IO.go i Hc (E.same.trans Rc.sub) hlt, fun H' => (i + 1 ≤ ds.length ∧ ∃ fmc accc, CompAt K σ F H1 fm1 vs F1 D H' fmc accc ∧ Same F1 F1 ∧ compM g mt me vs (ds.drop (i + 1)) fmc accc = some (acc, fm2)), fun H' p => ⟨ds.length - (i + 1), by omega, rfl, p.1, p.2⟩, fun x H' y => ?_⟩
              obtain ⟨F2, G, Dx⟩ := IO.yld i ds[i] Fc Hc x H' (by simp [hlt]) E.same Rc.sub y
              have A2 := G.aft Rc
              rw [List.drop_eq_getElem_cons hlt] at el
              simp only [compM] at el
              split at el
              · cases el
              · rename_i fmg eg
                obtain ⟨gl, gk⟩ := hg _ _ _ eg
                refine ⟨F2, fmc, ds[i], fmg, A2.rel, Dx, eg, fun σ2 F3 H3 A3 => ⟨?_, ?_⟩⟩
                · have hlw : σ2.length = (L2.wipe σ vs).length := by rw [← A3.rel.len, gl, A2.rel.len]
                  have : L2.wipe σ2 vs = L2.wipe (L2.wipe σ vs) vs := wipe_eq hlw fun j hj hv => A3.pin j ((hro j (by rw [wipe_length] at hj; omega)).resolve_right hv)
                  rw [this]
                  exact wipe_eq (wipe_length _ _) fun j hj hv => wipe_out hv
                · have hw : L2.wipe σ2 vs = L2.wipe σ vs := by
                    have hlw : σ2.length = (L2.wipe σ vs).length := by rw [← A3.rel.len, gl, A2.rel.len]
                    have : L2.wipe σ2 vs = L2.wipe (L2.wipe σ vs) vs := wipe_eq hlw fun j hj hv => A3.pin j ((hro j (by rw [wipe_length] at hj; omega)).resolve_right hv)
                    rw [this]
                    exact wipe_eq (wipe_length _ _) fun j hj hv => wipe_out hv
                  have E3 := (E.trans A2.ext).trans A3.ext
                  obtain ⟨d1, d2, d3⟩ := (A2.ext.trans A3.ext).outF hfD hlD hHD
                  split at el
                  · cases el
                  · rename_i fm4 e4
                    refine ⟨F3, fmg, _, fm4, A3.rel, e4, fun F4 H4 A4 => ?_⟩
                    refine iteF ⟨hlt, wipeF fm4 vs, accc, ⟨⟨F4, accV, ?_, ?_, ?_, ?_, ?_, ?_⟩, ?_, ?_⟩, Same.refl _, el⟩
                    · have E4 := E3.trans A4.ext
                      exact ⟨E4.same, E4.keep, E4.new, fun p h => E4.live p (by rw [← hw] at h; exact live_wipe h), E4.grow⟩
                    · rw [← hw]; exact A4.rel.wipe
                    · exact (A4.ext.outF d1 d2 d3).1
                    · intro z; rw [← hw] at z; exact (A4.ext.outF d1 d2 d3).2.1 (live_wipe z)
                    · exact (A4.ext.outF d1 d2 d3).2.2
                    · exact dpAll_mono ((A2.ext.same.trans A3.ext.same).trans A4.ext.same) hacc
                    · rw [wipeF_len, A4.rel.len, ← A3.rel.len, gl, hlen]
                    · intro j s hj hs
                      obtain ⟨s1, h1⟩ := hkp j s hj hs
                      obtain ⟨s2, h2⟩ := gk j s1 h1
                      obtain ⟨s3, h3⟩ := A4.kp j s2 h2
                      exact ⟨s3, by rw [wipeF_out hj]; exact h3⟩
                  · rename_i fm4 e4
                    refine ⟨F3, fmg, _, fm4, A3.rel, e4, fun F4 H4 A4 => iteT ?_⟩
                    obtain ⟨k1, k2, k3⟩ := A4.ext.outF d1 d2 d3
                    split at el
                    · cases el
                    · rename_i v5 fm5 e5
                      split at el
                      · cases el
                      · rename_i d6 fm6 e6
                        split at el
                        · rename_i hz
                          refine ⟨F4, fm4, v5, fm5, A4.rel, e5, fun y H5F H5 A5 V5 N5 => ?_⟩
                          obtain ⟨F6, E6, Ea6, s6, R6, D6, kp6, nw6⟩ := frz_ok A5.ext A5.rel V5 N5 e6
                          obtain ⟨j1, j2, j3⟩ := A5.ext.outF k1 k2 k3
                          obtain ⟨l1, l2, _⟩ := E6.outF k1 k2 k3
                          refine ⟨accV, j3, by rw [dpAll_len hacc]; exact hz, hlt, wipeF fm6 vs, accc ++ [d6], ⟨⟨F6, accV ++ [y], ?_, ?_, l1, ?_, upd_same, ?_⟩, ?_, ?_⟩, Same.refl _, el⟩
                          · have E7 := (E3.trans A4.ext).trans E6
                            have hD1 : H1 D = none := hD
                            have hnl1 : ¬ Live σ fm1 D := A1.rel.nolive hD1
                            refine ⟨E7.same, fun a o hl h => ?_, E7.new, fun p h => E7.live p (by rw [← hw] at h; exact live_wipe h), fun a h => ?_⟩
                            · have ne : a ≠ D := fun z => by subst z; rw [hD1] at h; cases h
                              rw [upd_ne ne]; exact E7.keep a o hl h
                            · by_cases z : a = D
                              · subst z; exact hD1
                              · rw [upd_ne z] at h; exact E7.grow a h
                          · have R7 := R6.updD (o := HO.lst (accV ++ [y])) l1 l2
                            rw [← hw]; exact R7.wipe
                          · intro z; rw [← hw] at z; exact l2 (live_wipe z)
                          · exact dpAll_app (dpAll_mono (((A2.ext.same.trans A3.ext.same).trans A4.ext.same).trans E6.same) hacc) (.cons D6 .nil)
                          · rw [wipeF_len, R6.len, ← A3.rel.len, gl, hlen]
                          · intro j s hj hs
                            obtain ⟨s1, h1⟩ := hkp j s hj hs
                            obtain ⟨s2, h2⟩ := gk j s1 h1
                            obtain ⟨s3, h3⟩ := A4.kp j s2 h2
                            obtain ⟨s4, h4⟩ := A5.kp j s3 h3
                            obtain ⟨s5, h5⟩ := kp6 j s4 h4
                            exact ⟨s5, by rw [wipeF_out hj]; exact h5⟩
                        · cases el
            · have e : i = ds.length := by omega
              subst e
              rw [List.drop_length] at el
              cases el
              refine .inl ⟨IO.stop Hc (E.same.trans Rc.sub), ?_⟩
              have E2 := A1.ext
              have hsl : ∀ {i : Nat} {s : S0}, fm'[i]? = some (some s) → (i ∈ vs ∧ fm1[i]? = some (some s) ∧ ∃ d, s = .dat d) ∨ (i ∉ vs ∧ fm2[i]? = some (some s)) := fun {i s} => unwipe_get e3
              have lv : ∀ p, Live σ fm' p → Live (L2.wipe σ vs) fm2 p := fun p ⟨i, c, h1, h2⟩ => by
                rcases hsl h1 with ⟨_, _, d, z⟩ | ⟨h3, h4⟩
                · cases z
                · exact ⟨i, c, h4, by rw [wipe_out h3]; exact h2⟩
              refine q _ Fc Hc ⟨E2.trans ⟨E.same, E.keep, E.new, fun p h => E.live p (lv p h), E.grow⟩, fun i s h => ?_, ⟨Rc.sub, ?_, fun i d h => ?_, fun i c h => ?_, fun i j c c' p hne h1 h2 h3 h4 => ?_⟩⟩ ⟨D, rfl, hfD, ⟨accV, hHD, hacc⟩, fun z => hlD (lv D z)⟩ (VNew.ref (A1.ext.grow D hD))
              · obtain ⟨s1, h1⟩ := A1.kp i s h
                exact unwipe_keep e3 hlen.symm h1 fun hv => hkp i s1 hv h1
              · rw [unwipe_len e3, hlen]; exact A1.rel.len
              · rcases hsl h with ⟨_, h1, _⟩ | ⟨h1, h2⟩
                · obtain ⟨y, h3, h4⟩ := A1.rel.dat i d h1
                  exact ⟨y, h3, dp_mono E.same h4⟩
                · obtain ⟨y, h3, h4⟩ := Rc.dat i d h2
                  rw [wipe_out h1] at h3
                  exact ⟨y, h3, h4⟩
              · rcases hsl h with ⟨_, _, d, z⟩ | ⟨h1, h2⟩
                · cases z
                · obtain ⟨y, h3, h4⟩ := Rc.own i c h2
                  rw [wipe_out h1] at h3
                  exact ⟨y, h3, h4⟩
              · rcases hsl h1 with ⟨_, _, d, z⟩ | ⟨a1, a2⟩
                · cases z
                · rcases hsl h2 with ⟨_, _, d, z⟩ | ⟨b1, b2⟩
                  · cases z
                  · exact Rc.apart i j c c' p hne a2 b2 (by rw [wipe_out a1]; exact h3) (by rw [wipe_out b1]; exact h4)
    · cases em
end
end Rf

namespace Rf
open PySem L2

section
variable {K : PySem.W.Frag}
def fI (C : Int → Int → Bool) (g : Int → Int → PyData) : F2 := fun va vb fm => match peek va fm, peek vb fm with
  | some (.int i), some (.int j) => if C i j then some (.dat (g i j), fm) else none
  | _, _ => none
theorem fI_inv {C : Int → Int → Bool} {g : Int → Int → PyData} {va vb v : SV} {fm fm' : Fm} (h : fI C g va vb fm = some (v, fm')) : ∃ i j, peek va fm = some (.int i) ∧ peek vb fm = some (.int j) ∧ C i j = true ∧ v = .dat (g i j) ∧ fm' = fm := by
  unfold fI at h
  split at h
  · rename_i i j h1 h2
    split at h
    · rename_i hc
      cases h
      exact ⟨i, j, h1, h2, hc, rfl, rfl⟩
    · cases h
  · cases h
theorem prim_I {C : Int → Int → Prop} {Cb : Int → Int → Bool} {g : Int → Int → V} {gd : Int → Int → PyData} (hC : ∀ i j, Cb i j = true → C i j) (hg : ∀ K F i j, Dq K F (g i j) (gd i j)) : Prim2 K (rI C g) (fI Cb gd) := by
  intro F H σ fm fm' va vb x y v R Va Vb h Q q
  obtain ⟨i, j, h1, h2, hc, rfl, rfl⟩ := fI_inv h
  exact ⟨i, j, peek_int R Va h1, peek_int R Vb h2, hC i j hc, q _ F H (Aft.refl R) (hg _ _ _ _) VNew.dat⟩
def cY : Int → Int → Bool := fun _ _ => true
theorem prim_I0 {g : Int → Int → V} {gd : Int → Int → PyData} (hg : ∀ K F i j, Dq K F (g i j) (gd i j)) : Prim2 K (rI0 g) (fI cY gd) := by
  intro F H σ fm fm' va vb x y v R Va Vb h Q q
  obtain ⟨i, j, h1, h2, hc, rfl, rfl⟩ := fI_inv h
  exact ⟨i, j, peek_int R Va h1, peek_int R Vb h2, q _ F H (Aft.refl R) (hg _ _ _ _) VNew.dat⟩
def fAdd : F2 := fI cY fun i j => .int (i + j)
def fSub : F2 := fI cY fun i j => .int (i - j)
def cMul : Int → Int → Bool := fun i j => (decide (-(2 ^ 64) < i) && decide (i < 2 ^ 64)) || (decide (-(2 ^ 64) < j) && decide (j < 2 ^ 64))
def fMul : F2 := fI cMul fun i j => .int (i * j)
def cMod : Int → Int → Bool := fun _ j => decide (0 < j)
def fMod : F2 := fI cMod fun i j => .int (i % j)
def cDiv : Int → Int → Bool := fun _ j => decide (0 < j) && decide (j < 1073741824)
def fDiv : F2 := fI cDiv fun i j => .int (i / j)
def cPow : Int → Int → Bool := fun i j => decide (0 ≤ j) && decide (j ≤ 1000000) && decide (i.natAbs < 2 ^ 64)
def fPow : F2 := fI cPow fun i j => .int (i ^ j.toNat)
def fLt : F2 := fI cY fun i j => .bool (decide (i < j))
def fLe : F2 := fI cY fun i j => .bool (decide (i ≤ j))
def fGt : F2 := fI cY fun i j => .bool (decide (i > j))
def fGe : F2 := fI cY fun i j => .bool (decide (i ≥ j))
theorem p_add : Prim2 K (rI0 fun i j => .int (i + j)) fAdd := prim_I0 fun _ _ _ _ => .int _
theorem p_sub : Prim2 K (rI0 fun i j => .int (i - j)) fSub := prim_I0 fun _ _ _ _ => .int _
theorem p_mul : Prim2 K (rI CMul fun i j => .int (i * j)) fMul := prim_I (fun i j h => by
  simp only [cMul, Bool.or_eq_true, Bool.and_eq_true, decide_eq_true_eq] at h; exact h) fun _ _ _ _ => .int _
theorem p_mod : Prim2 K (rI (fun _ j => 0 < j) fun i j => .int (i % j)) fMod := prim_I (fun i j h => by
  simpa [cMod] using h) fun _ _ _ _ => .int _
theorem p_div : Prim2 K (rI CDiv fun i j => .int (i / j)) fDiv := prim_I (fun i j h => by
  simp only [cDiv, Bool.and_eq_true, decide_eq_true_eq] at h; exact h) fun _ _ _ _ => .int _
theorem p_pow : Prim2 K (rI CPow fun i j => .int (i ^ j.toNat)) fPow := prim_I (fun i j h => by
  simp only [cPow, Bool.and_eq_true, decide_eq_true_eq] at h; exact ⟨h.1.1, h.1.2, h.2⟩) fun _ _ _ _ => .int _
theorem p_lt : Prim2 K (rI0 fun i j => .bl (decide (i < j))) fLt := prim_I0 fun _ _ _ _ => .bl _
theorem p_le : Prim2 K (rI0 fun i j => .bl (decide (i ≤ j))) fLe := prim_I0 fun _ _ _ _ => .bl _
theorem p_gt : Prim2 K (rI0 fun i j => .bl (decide (i > j))) fGt := prim_I0 fun _ _ _ _ => .bl _
theorem p_ge : Prim2 K (rI0 fun i j => .bl (decide (i ≥ j))) fGe := prim_I0 fun _ _ _ _ => .bl _
def isNone : PyData → Bool
  | .none => true
  | _ => false
theorem isNone_dp {F : Hp} {x : V} {d : PyData} (h : Dq K F x d) : decide (x = V.non) = isNone d := by
  cases h <;> simp [isNone]
def fIsN : F2 := fun va vb fm => match peek va fm, peek vb fm with
  | some d, some .none => some (.dat (.bool (isNone d)), fm)
  | _, _ => none
def fNotN : F2 := fun va vb fm => match peek va fm, peek vb fm with
  | some d, some .none => some (.dat (.bool (!isNone d)), fm)
  | _, _ => none
theorem p_isN : Prim2 K (fun x y H Q => y = .non ∧ Q (.bl (decide (x = .non))) H) fIsN := by
  intro F H σ fm fm' va vb x y v R Va Vb h Q q
  unfold fIsN at h
  split at h
  · rename_i d h1 h2
    cases h
    refine ⟨peek_none R Vb h2, ?_⟩
    rw [isNone_dp (peek_dp R Va h1)]
    exact q _ F H (Aft.refl R) (.bl _) VNew.dat
  · cases h
theorem p_notN : Prim2 K (fun x y H Q => y = .non ∧ Q (.bl (!decide (x = .non))) H) fNotN := by
  intro F H σ fm fm' va vb x y v R Va Vb h Q q
  unfold fNotN at h
  split at h
  · rename_i d h1 h2
    cases h
    refine ⟨peek_none R Vb h2, ?_⟩
    rw [isNone_dp (peek_dp R Va h1)]
    exact q _ F H (Aft.refl R) (.bl _) VNew.dat
  · cases h
def fIsB : F2 := fun va vb fm => match peek va fm, peek vb fm with
  | some (.bool a), some (.bool b) => some (.dat (.bool (decide (a = b))), fm)
  | _, _ => none
theorem p_isB : Prim2 K rIsB fIsB := by
  intro F H σ fm fm' va vb x y v R Va Vb h Q q
  unfold fIsB at h
  split at h
  · rename_i a b h1 h2
    cases h
    exact ⟨a, b, peek_bool R Va h1, peek_bool R Vb h2, q _ F H (Aft.refl R) (.bl _) VNew.dat⟩
  · cases h
theorem dpAll_atI {F : Hp} {vs : List V} {ds : List PyData} {i : Int} {d : PyData} (r : DqAll K F vs ds) (h : atI ds i = some d) : ∃ v, atI vs i = some v ∧ Dq K F v d := by
  unfold atI at h ⊢
  rw [dpAll_len r]
  cases e : ixN ds.length i with
  | none => rw [e] at h; cases h
  | some j =>
    rw [e] at h
    obtain ⟨v, h1, h2⟩ := dpAll_get r (show ds[j]? = some d from h)
    exact ⟨v, h1, h2⟩
def fIx : F2 := fun va vb fm => match peek va fm, peek vb fm with
  | some (.list ds), some (.int i) => (atI ds i).map fun d => (.dat d, fm)
  | some (.tuple ds), some (.int i) => (atI ds i).map fun d => (.dat d, fm)
  | _, _ => none
theorem p_ix : Prim2 K (rIx K) fIx := by
  intro F H σ fm fm' va vb x y v R Va Vb h Q q
  unfold fIx at h
  split at h
  · rename_i ds i h1 h2
    cases e : atI ds i with
    | none => rw [e] at h; cases h
    | some d =>
      rw [e] at h; cases h
      obtain ⟨a, vs, rfl, hs, r⟩ := peek_list R Va h1
      obtain ⟨z, h3, h4⟩ := dpAll_atI r e
      exact .inl ⟨a, vs, i, z, rfl, peek_int R Vb h2, hs, h3, q _ F H (Aft.refl R) h4 VNew.dat⟩
  · rename_i ds i h1 h2
    cases e : atI ds i with
    | none => rw [e] at h; cases h
    | some d =>
      rw [e] at h; cases h
      obtain ⟨a, vs, rfl, hs, r⟩ := peek_tup R Va h1
      obtain ⟨z, h3, h4⟩ := dpAll_atI r e
      exact .inr (.inl ⟨a, vs, i, z, rfl, peek_int R Vb h2, hs.1, h3, q _ F H (Aft.refl R) h4 VNew.dat⟩)
  · cases h
def rCatL (K : PySem.W.Frag) : R2 := fun x y H Q => ∃ l b xs zs, x = .ref l ∧ y = .ref b ∧ SqL K H l xs ∧ SqL K H b zs ∧ xs.length + zs.length ≤ sizeLine ∧ ∀ p, H p = none → Q (.ref p) (upd H p (.lst (xs ++ zs)))
end
section
variable {X : Cx}
theorem op_catL : OpR X (binaryOp .Add) (rCatL X.K) := by
  intro pins s σ H x y v u Q I rx ry h
  obtain ⟨l, b, xs, zs, rfl, rfl, hH, hB, hz, q⟩ := h
  cases rx
  cases ry
  obtain ⟨its, r, ⟨o, n, e, e1, e2, e3⟩, hl⟩ := I.list hH
  obtain ⟨its2, r2, ⟨o2, n2, f, f1, f2, f3⟩, hl2⟩ := I.list hB
  have h1 := r.length
  have h2 := r2.length
  obtain ⟨oc, od, odt, osl⟩ := o
  obtain ⟨oc2, od2, odt2, osl2⟩ := o2
  cases e1; cases e2; cases e3; cases f1; cases f2; cases f3
  refine PySem.concat_meets ⟨_, e, rfl⟩ ⟨_, f, rfl⟩ noFill_list_add seq_list_add PySem.F.slot_list_add PySem.F.entry_list_add (PySem.F.args_list_add_2 _ _) (PyProof.Rows.list_addW l b its.toArray its2.toArray n n2 _ _ osl osl2 (by rw [List.size_toArray, List.size_toArray]; omega)) ⟨e, f, ?_⟩
  have ea : its.toArray ++ its2.toArray = (its ++ its2).toArray := by simp
  rw [ea]
  exact ⟨.ref _, _, I.lnew (t' := s.toks) (r.append r2) (by rw [List.length_append]; omega), rfl, q _ I.fresh⟩
def rCatP (K : PySem.W.Frag) : R2 := fun x y H Q => ∃ a b xs ys, x = .ref a ∧ y = .ref b ∧ SqT K H a xs ∧ SqT K H b ys ∧ xs.length + ys.length ≤ sizeLine ∧
  (xs = [] → Q (.ref b) H) ∧ (xs ≠ [] → ys = [] → Q (.ref a) H) ∧ (xs ≠ [] → ys ≠ [] → rNewP (xs ++ ys) H Q)
theorem op_catP : OpR X (binaryOp .Add) (rCatP X.K) := by
  intro pins s σ H x y v u Q I rx ry h
  obtain ⟨a, b, xs, ys, rfl, rfl, ha, hb, hz, k0, k1, k2⟩ := h
  cases rx
  cases ry
  obtain ⟨ia, r1, t1, _⟩ := I.tuple ha
  obtain ⟨ib, r2, t2, _⟩ := I.tuple hb
  by_cases hx : xs = []
  · subst hx
    cases r1
    exact cat_tup0 t1 t2 ⟨.ref b, H, I, rfl, k0 rfl⟩
  · refine HT.cat_tup t1 t2 (fun z => hx (r1.nil_iff.mp z)) (fun z => ⟨.ref a, H, I, rfl, k1 hx (r2.nil_iff.mp z)⟩) (fun z => ?_) (by rw [← r1.length, ← r2.length]; exact hz)
    have hl : (xs ++ ys).length ≤ sizeLine := by rw [List.length_append]; exact hz
    exact ⟨.ref s.heap.objs.size, _, inv_newP (t' := s.toks) I (r1.append r2) hl rfl, rfl, k2 hx (fun w => z (r2.nil_iff.mpr w)) _ _ (I.hok.fresh (Nat.le_refl _)) rfl⟩
theorem call_tupleP : CallR X (.type "tuple") (fun xs H Q => ∃ p ys, xs = [.ref p] ∧ ((SqL X.K H p ys ∧ rNewP ys H Q) ∨ (SqT X.K H p ys ∧ Q (.ref p) H))) := by
  intro pins s σ H xs us Q I r h
  obtain ⟨p, ys, rfl, h⟩ := h
  obtain ⟨u, rfl, rx⟩ := vals1 r
  cases rx
  rcases h with ⟨hq, q⟩ | ⟨hq, q⟩
  · obtain ⟨its, r', pl, hz⟩ := I.list hq
    have hlen := r'.length
    refine call_tuple_list pl.isList (fun h' kp => ?_) (by simp only [List.size_toArray] <;> omega)
    have J : Inv X pins σ H { s with heap := h' } := I.kept (t' := s.toks) kp
    exact ⟨.ref h'.objs.size, _, inv_newP (t' := s.toks) J r' hz rfl, rfl, q _ _ (J.hok.fresh (Nat.le_refl _)) rfl⟩
  · obtain ⟨its, r', pl, hz⟩ := I.tuple hq
    exact call_tuple_same pl ⟨.ref p, H, I, rfl, q⟩
def rSlP (K : PySem.W.Frag) : V → Option Int → Option Int → Hp → VK → Prop := fun x lo hi H Q => ∃ a xs, x = .ref a ∧ SqT K H a xs ∧
  (HT.sIx xs.length 0 lo = 0 ∧ HT.sIx xs.length xs.length hi = xs.length → Q (.ref a) H) ∧ (¬ (HT.sIx xs.length 0 lo = 0 ∧ HT.sIx xs.length xs.length hi = xs.length) → rNewP (cutV xs lo hi) H Q)
theorem sl_tupP : SlR X (rSlP X.K) := by
  intro pins s σ H x v vl vu lo hi sl Q I rx hs pl pu h
  obtain ⟨a, xs, rfl, hx, k1, k2⟩ := h
  cases rx
  obtain ⟨its, r, ht, hz⟩ := I.tuple hx
  have hlen : its.toArray.size = xs.length := by rw [List.size_toArray]; exact r.length.symm
  refine ⟨"tuple", _, PyProof.Rows.slot_tuple_getitem.lookup, ht.typeIs, ?_⟩
  by_cases hw : HT.sIx xs.length 0 lo = 0 ∧ HT.sIx xs.length xs.length hi = xs.length
  · exact getItem_tuple_whole ht hs pl pu (by rw [hlen]; exact hw) ⟨.ref a, H, I, rfl, k1 hw⟩
  · refine HT.getItem_tuple_cut ht hs pl pu (by rw [hlen]; exact hw) ?_ (by rw [hlen]; exact hz)
    rw [hlen]
    have rr := (r.drop (HT.sIx xs.length 0 lo)).take (HT.sIx xs.length xs.length hi - HT.sIx xs.length 0 lo)
    exact ⟨.ref s.heap.objs.size, _, inv_newP (t' := s.toks) I rr (Nat.le_trans (cutV_length xs lo hi) hz) rfl, rfl, k2 hw _ _ (I.hok.fresh (Nat.le_refl _)) rfl⟩
end
end Rf

namespace Rf
open PySem L2

section
variable {X : Cx} {K : PySem.W.Frag}
theorem opr_or {f : Value → Value → Sem Value} {r r' : R2} (h : OpR X f r) (h' : OpR X f r') : OpR X f (fun x y H Q => r x y H Q ∨ r' x y H Q) := by
  intro pins s σ H x y v u Q I rx ry q
  rcases q with q | q
  · exact h pins s σ H x y v u Q I rx ry q
  · exact h' pins s σ H x y v u Q I rx ry q
def b2n (b : Bool) : Int := if b = true then 1 else 0
def rBI (g : Int → Int → Int) : R2 := fun x y H Q => ∃ b i, x = .bl b ∧ y = .int i ∧ Q (.int (g (b2n b) i)) H
def rIB (g : Int → Int → Int) : R2 := fun x y H Q => ∃ i b, x = .int i ∧ y = .bl b ∧ Q (.int (g i (b2n b))) H
theorem op_addBI : OpR X (binaryOp .Add) (rBI (· + ·)) := by
  intro pins s σ H x y v u Q I rx ry h
  obtain ⟨b, i, rfl, rfl, q⟩ := h
  obtain ⟨t, rfl⟩ := ry
  cases rx
  exact PySem.IntBool.add_bool_int ⟨.int _, H, I.tok _, ⟨_, rfl⟩, q⟩
theorem op_subBI : OpR X (binaryOp .Sub) (rBI (· - ·)) := by
  intro pins s σ H x y v u Q I rx ry h
  obtain ⟨b, i, rfl, rfl, q⟩ := h
  obtain ⟨t, rfl⟩ := ry
  cases rx
  exact PySem.IntBool.sub_bool_int ⟨.int _, H, I.tok _, ⟨_, rfl⟩, q⟩
theorem op_subIB : OpR X (binaryOp .Sub) (rIB (· - ·)) := by
  intro pins s σ H x y v u Q I rx ry h
  obtain ⟨b, i, rfl, rfl, q⟩ := h
  obtain ⟨t, rfl⟩ := rx
  cases ry
  exact PySem.IntBool.sub_int_bool ⟨.int _, H, I.tok _, ⟨_, rfl⟩, q⟩
def rAddX (K : PySem.W.Frag) : R2 := fun x y H Q => rI0 (fun i j => .int (i + j)) x y H Q ∨ (rCatL K x y H Q ∨ (rCatP K x y H Q ∨ rBI (· + ·) x y H Q))
theorem op_addX : OpR X (binaryOp .Add) (rAddX X.K) := opr_or op_add (opr_or op_catL (opr_or op_catP op_addBI))
def fAddX : F2 := fun va vb fm => match peek va fm, peek vb fm with
  | some (.int i), some (.int j) => some (.dat (.int (i + j)), fm)
  | some (.list as), some (.list bs) => if as.length + bs.length ≤ sizeLine then some (.fre (.lst (as ++ bs)), fm) else none
  | some (.tuple as), some (.tuple bs) => if as.length + bs.length ≤ sizeLine then some (.dat (.tuple (as ++ bs)), fm) else none
  | some (.bool b), some (.int j) => some (.dat (.int (b2n b + j)), fm)
  | _, _ => none
theorem p_addX : Prim2 K (rAddX K) fAddX := by
  intro F H σ fm fm' va vb x y v R Va Vb h Q q
  unfold fAddX at h
  split at h
  · rename_i i j h1 h2
    cases h
    exact .inl ⟨i, j, peek_int R Va h1, peek_int R Vb h2, q _ F H (Aft.refl R) (.int _) VNew.dat⟩
  · rename_i as bs h1 h2
    split at h
    · rename_i hl
      cases h
      obtain ⟨a, xs, rfl, s1, r1⟩ := peek_list R Va h1
      obtain ⟨b, ys, rfl, s2, r2⟩ := peek_list R Vb h2
      refine .inr (.inl ⟨a, b, xs, ys, rfl, rfl, s1, s2, by rw [dpAll_len r1, dpAll_len r2]; exact hl, fun p hp => ?_⟩)
      exact q _ F _ (Aft.lay R hp) (Aft.newL R hp (dpAll_app r1 r2)) (VNew.ref hp)
    · cases h
  · rename_i as bs h1 h2
    split at h
    · rename_i hl
      cases h
      have p1 := peek_flat R Va h1 (fun _ e => nomatch e)
      have p2 := peek_flat R Vb h2 (fun _ e => nomatch e)
      obtain ⟨a, xs, rfl, s1, r1⟩ := peek_tup R Va h1
      obtain ⟨b, ys, rfl, s2, r2⟩ := peek_tup R Vb h2
      refine .inr (.inr (.inl ⟨a, b, xs, ys, rfl, rfl, s1.1, s2.1, by rw [dpAll_len r1, dpAll_len r2]; exact hl, fun e => ?_, fun e e2 => ?_, fun _ _ p o hp hd => ?_⟩))
      · subst e
        cases r1
        exact q _ F H (Aft.refl R) p2 VNew.dat
      · subst e2
        cases r2
        rw [List.append_nil] at q
        exact q _ F H (Aft.refl R) p1 VNew.dat
      · exact q _ _ _ (Aft.layF R hp) (Aft.newT R hp hd (dpAll_app r1 r2)) VNew.dat
    · cases h
  · rename_i b j h1 h2
    cases h
    exact .inr (.inr (.inr ⟨b, j, peek_bool R Va h1, peek_int R Vb h2, q _ F H (Aft.refl R) (.int _) VNew.dat⟩))
  · cases h
def rSubX : R2 := fun x y H Q => rI0 (fun i j => .int (i - j)) x y H Q ∨ (rBI (· - ·) x y H Q ∨ rIB (· - ·) x y H Q)
theorem op_subX : OpR X (binaryOp .Sub) rSubX := opr_or op_sub (opr_or op_subBI op_subIB)
def fSubX : F2 := fun va vb fm => match peek va fm, peek vb fm with
  | some (.int i), some (.int j) => some (.dat (.int (i - j)), fm)
  | some (.bool b), some (.int j) => some (.dat (.int (b2n b - j)), fm)
  | some (.int i), some (.bool b) => some (.dat (.int (i - b2n b)), fm)
  | _, _ => none
theorem p_subX : Prim2 K rSubX fSubX := by
  intro F H σ fm fm' va vb x y v R Va Vb h Q q
  unfold fSubX at h
  split at h
  · rename_i i j h1 h2
    cases h
    exact .inl ⟨i, j, peek_int R Va h1, peek_int R Vb h2, q _ F H (Aft.refl R) (.int _) VNew.dat⟩
  · rename_i b j h1 h2
    cases h
    exact .inr (.inl ⟨b, j, peek_bool R Va h1, peek_int R Vb h2, q _ F H (Aft.refl R) (.int _) VNew.dat⟩)
  · rename_i i b h1 h2
    cases h
    exact .inr (.inr ⟨i, b, peek_int R Va h1, peek_bool R Vb h2, q _ F H (Aft.refl R) (.int _) VNew.dat⟩)
  · cases h
def repD (k : Int) (ds : List PyData) : List PyData := (List.replicate k.toNat ds).flatten
theorem dpAll_rep {F : Hp} {vs : List V} {ds : List PyData} (r : DqAll K F vs ds) : ∀ n : Nat, DqAll K F (List.replicate n vs).flatten (List.replicate n ds).flatten
  | 0 => .nil
  | n + 1 => by
    rw [List.replicate_succ, List.replicate_succ, List.flatten_cons, List.flatten_cons]
    exact dpAll_app r (dpAll_rep r n)
def rMulX (K : PySem.W.Frag) : R2 := fun x y H Q => rI CMul (fun i j => .int (i * j)) x y H Q ∨ rRep x y H Q
theorem op_mulX' : OpR X (binaryOp .Mult) (rMulX X.K) := opr_or op_mul op_rep
def fMulL (k : Int) (va : SV) (fm : Fm) : Option (SV × Fm) := match va with
  | .fre (.lst ds) => if ds.length * k.toNat ≤ sizeLine ∧ -(2 ^ 63) ≤ k ∧ k < 2 ^ 63 then some (.fre (.lst (repD k ds)), fm) else none
  | _ => none
def fMulX : F2 := fun va vb fm => match peek va fm, peek vb fm with
  | some (.int i), some (.int j) => if cMul i j then some (.dat (.int (i * j)), fm) else none
  | some (.list _), some (.int k) => fMulL k va fm
  | _, _ => none
theorem p_mulX : Prim2 K (rMulX K) fMulX := by
  intro F H σ fm fm' va vb x y v R Va Vb h Q q
  unfold fMulX at h
  split at h
  · rename_i i j h1 h2
    split at h
    · rename_i hc
      cases h
      refine .inl ⟨i, j, peek_int R Va h1, peek_int R Vb h2, ?_, q _ F H (Aft.refl R) (.int _) VNew.dat⟩
      simp only [cMul, Bool.or_eq_true, Bool.and_eq_true, decide_eq_true_eq] at hc; exact hc
    · cases h
  · rename_i es k h1 h2
    unfold fMulL at h
    split at h
    · rename_i ds
      split at h
      · rename_i hc
        cases h
        obtain ⟨p, rfl, hf, ⟨vs, hp, r⟩, hl⟩ := Va
        refine .inr ⟨p, k, vs, rfl, peek_int R Vb h2, hp, hc.2.1, hc.2.2, by rw [dpAll_len r]; exact hc.1, fun a ha => ?_⟩
        exact q _ F _ (Aft.lay R ha) (Aft.newL R ha (dpAll_rep r _)) (VNew.ref ha)
      · cases h
    · cases h
  · cases h
end
abbrev F1 := SV → Fm → Option (SV × Fm)
def m1 (f : F1) (ma : ME) : ME := fun fm => match ma fm with
  | some (v, fm1) => f v fm1
  | none => none
def Prim1 (K : PySem.W.Frag) (r : V → Hp → VK → Prop) (f : F1) : Prop := ∀ (F H : Hp) (σ : L2.St) (fm fm' : Fm) (va : SV) (x : V) (v : SV), Rel K F H σ fm → VRel K F H σ fm va x → f va fm = some (v, fm') →
  ∀ Q : VK, (∀ z F' H', Aft K σ F H fm F' H' fm' → VRel K F' H' σ fm' v z → VNew H v z → Q z H') → r x H Q
section
variable {X : Cx} {K : PySem.W.Frag} {a : Expr} {pos : Pos}
theorem m1_inv {f : F1} {ma : ME} {fm fm' : Fm} {v : SV} (h : m1 f ma fm = some (v, fm')) : ∃ va fm1, ma fm = some (va, fm1) ∧ f va fm1 = some (v, fm') := by
  unfold m1 at h
  split at h
  · rename_i va fm1 h1
    exact ⟨va, fm1, h1, h⟩
  · cases h
theorem tE_1 {r : V → Hp → VK → Prop} {f : F1} {ma : ME} (P : Prim1 K r f) {σ : L2.St} {H : Hp} {Q : VK} (h : tE K (m1 f ma) σ H Q) : tE K ma σ H fun x H1 => r x H1 Q := by
  obtain ⟨F, fm, v, fm', R, em, q⟩ := h
  obtain ⟨va, fm1, e1, e2⟩ := m1_inv em
  refine ⟨F, fm, va, fm1, R, e1, fun x F1 H1 A1 V1 N1 => P F1 H1 σ fm1 fm' va x v A1.rel V1 e2 Q fun z F2 H2 A2 V2 N2 => ?_⟩
  exact q z F2 H2 (A1.trans A2) V2 (A1.new N2)
theorem se_un {op : UnaryOp} {r : V → Hp → VK → Prop} {f : F1} {ma : ME} (ho : UnR X (unaryOp op) r) (P : Prim1 X.K r f) (ha : SE X a ma) : SE X (.UnaryOp op a pos) (m1 f ma) :=
  pe_le (pe_un ho ha) fun σ H Q h => tE_1 P h
def fNeg : F1 := fun va fm => match peek va fm with
  | some (.int i) => some (.dat (.int (-i)), fm)
  | _ => none
theorem p_neg : Prim1 K (rU fun i => .int (-i)) fNeg := by
  intro F H σ fm fm' va x v R Va h Q q
  unfold fNeg at h
  split at h
  · rename_i i h1
    cases h
    exact ⟨i, peek_int R Va h1, q _ F H (Aft.refl R) (.int _) VNew.dat⟩
  · cases h
abbrev FA := List SV → Fm → Option (SV × Fm)
def mB1 (f : FA) (ma : MA) : ME := fun fm => match ma fm with
  | some (vs, fm1) => f vs fm1
  | none => none
def PrimA (K : PySem.W.Frag) (r : List V → Hp → VK → Prop) (f : FA) : Prop := ∀ (F H : Hp) (σ : L2.St) (fm fm' : Fm) (vs : List SV) (xs : List V) (v : SV), Rel K F H σ fm → VsRel K F H σ fm vs xs → f vs fm = some (v, fm') →
  ∀ Q : VK, (∀ z F' H', Aft K σ F H fm F' H' fm' → VRel K F' H' σ fm' v z → VNew H v z → Q z H') → r xs H Q
theorem tE_A {r : List V → Hp → VK → Prop} {f : FA} {ma : MA} (P : PrimA K r f) {σ : L2.St} {H : Hp} {Q : VK} (h : tE K (mB1 f ma) σ H Q) : tCB r (tA K ma) σ H Q := by
  obtain ⟨F, fm, v, fm', R, em, q⟩ := h
  unfold mB1 at em
  split at em
  · rename_i vs fm1 e1
    refine ⟨F, fm, vs, fm1, R, e1, fun xs F1 H1 A1 V1 N1 => P F1 H1 σ fm1 fm' vs xs v A1.rel V1 em Q fun z F2 H2 A2 V2 N2 => ?_⟩
    exact q z F2 H2 (A1.trans A2) V2 (A1.new N2)
  · cases em
variable {e : Expr} {es : List Expr} {x : Str} {p : Pos} {id T : String}
theorem se_callB {r : List V → Hp → VK → Prop} {f : FA} {ma : MA} (hc : CallR X (.builtin id) r) (P : PrimA X.K r f) (hg : Gl X x) (hm : X.mg x = none) (hv : bootBuiltins x = some (.builtin id)) (ha : SA X (e :: es) ma)
    (hn : x ≠ "__name__" := by decide) (hdb : (x == ("__debug__" : Str)) = false := by decide) (he : starEach (e :: es) X.env = (false, eval e X.env) :: starEach es X.env := by rfl) (hpl : (backTo pos (starEach es X.env)).any (·.1) = false := by rfl) :
    SE X (.Call (.Name x p) (e :: es) [] pos) (mB1 f ma) :=
  pe_le (pe_callB hc hg hm hv ha hn hdb he hpl) fun σ H Q h => tE_A P h
theorem se_callTy {r : List V → Hp → VK → Prop} {f : FA} {ma : MA} (hc : CallR X (.type T) r) (P : PrimA X.K r f) (hg : Gl X x) (hm : X.mg x = none) (hv : bootBuiltins x = some (.type T)) (ha : SA X (e :: es) ma)
    (hn : x ≠ "__name__" := by decide) (hdb : (x == ("__debug__" : Str)) = false := by decide) (he : starEach (e :: es) X.env = (false, eval e X.env) :: starEach es X.env := by rfl) (hpl : (backTo pos (starEach es X.env)).any (·.1) = false := by rfl) :
    SE X (.Call (.Name x p) (e :: es) [] pos) (mB1 f ma) :=
  pe_le (pe_callTy hc hg hm hv ha hn hdb he hpl) fun σ H Q h => tE_A P h
def fLen : FA := fun vs fm => match vs with
  | [v] => match peek v fm with
    | some (.list ds) => some (.dat (.int ds.length), fm)
    | some (.tuple ds) => some (.dat (.int ds.length), fm)
    | _ => none
  | _ => none
theorem p_len : PrimA K (fun xs H Q => ∃ p ys, xs = [.ref p] ∧ (SqL K H p ys ∨ SqT K H p ys) ∧ Q (.int ys.length) H) fLen := by
  intro F H σ fm fm' vs xs v R Vs h Q q
  unfold fLen at h
  split at h
  · rename_i w
    obtain ⟨y, rfl, V⟩ := vsrel1 Vs
    split at h
    · rename_i ds h1
      cases h
      obtain ⟨a, ys, rfl, s1, r1⟩ := peek_list R V h1
      refine ⟨a, ys, rfl, .inl s1, ?_⟩
      rw [dpAll_len r1]
      exact q _ F H (Aft.refl R) (.int _) VNew.dat
    · rename_i ds h1
      cases h
      obtain ⟨a, ys, rfl, s1, r1⟩ := peek_tup R V h1
      refine ⟨a, ys, rfl, .inr s1.1, ?_⟩
      rw [dpAll_len r1]
      exact q _ F H (Aft.refl R) (.int _) VNew.dat
    · cases h
  · cases h
def fAbs : FA := fun vs fm => match vs with
  | [v] => match peek v fm with
    | some (.int i) => some (.dat (.int (if i < 0 then -i else i)), fm)
    | _ => none
  | _ => none
theorem p_abs : PrimA K (fun xs H Q => ∃ i, xs = [.int i] ∧ Q (.int (if i < 0 then -i else i)) H) fAbs := by
  intro F H σ fm fm' vs xs v R Vs h Q q
  unfold fAbs at h
  split at h
  · obtain ⟨y, rfl, V⟩ := vsrel1 Vs
    split at h
    · rename_i i h1
      cases h
      cases peek_int R V h1
      exact ⟨i, rfl, q _ F H (Aft.refl R) (.int _) VNew.dat⟩
    · cases h
  · cases h
def fInt : FA := fun vs fm => match vs with
  | [v] => match peek v fm with
    | some (.int i) => some (.dat (.int i), fm)
    | some (.bool b) => some (.dat (.int (if b then 1 else 0)), fm)
    | _ => none
  | _ => none
theorem p_int : PrimA K (fun xs H Q => (∃ i, xs = [.int i] ∧ Q (.int i) H) ∨ ∃ k, xs = [.bl k] ∧ Q (.int (if k then 1 else 0)) H) fInt := by
  intro F H σ fm fm' vs xs v R Vs h Q q
  unfold fInt at h
  split at h
  · obtain ⟨y, rfl, V⟩ := vsrel1 Vs
    split at h
    · rename_i i h1
      cases h
      cases peek_int R V h1
      exact .inl ⟨i, rfl, q _ F H (Aft.refl R) (.int _) VNew.dat⟩
    · rename_i i h1
      cases h
      cases peek_bool R V h1
      exact .inr ⟨i, rfl, q _ F H (Aft.refl R) (.int _) VNew.dat⟩
    · cases h
  · cases h
def fMin2 : FA := fun vs fm => match vs with
  | [v, w] => match peek v fm, peek w fm with
    | some (.int i), some (.int j) => some (.dat (.int (if j < i then j else i)), fm)
    | _, _ => none
  | _ => none
theorem p_min2 : PrimA K (fun xs H Q => ∃ i j, xs = [.int i, .int j] ∧ Q (.int (if j < i then j else i)) H) fMin2 := by
  intro F H σ fm fm' vs xs v R Vs h Q q
  unfold fMin2 at h
  split at h
  · obtain ⟨y, z, rfl, V, W⟩ := vsrel2 Vs
    split at h
    · rename_i i j h1 h2
      cases h
      cases peek_int R V h1
      cases peek_int R W h2
      exact ⟨i, j, rfl, q _ F H (Aft.refl R) (.int _) VNew.dat⟩
    · cases h
  · cases h
def fMax2 : FA := fun vs fm => match vs with
  | [v, w] => match peek v fm, peek w fm with
    | some (.int i), some (.int j) => some (.dat (.int (if j > i then j else i)), fm)
    | _, _ => none
  | _ => none
theorem p_max2 : PrimA K (fun xs H Q => ∃ i j, xs = [.int i, .int j] ∧ Q (.int (if j > i then j else i)) H) fMax2 := by
  intro F H σ fm fm' vs xs v R Vs h Q q
  unfold fMax2 at h
  split at h
  · obtain ⟨y, z, rfl, V, W⟩ := vsrel2 Vs
    split at h
    · rename_i i j h1 h2
      cases h
      cases peek_int R V h1
      cases peek_int R W h2
      exact ⟨i, j, rfl, q _ F H (Aft.refl R) (.int _) VNew.dat⟩
    · cases h
  · cases h
def fList : FA := fun vs fm => match vs with
  | [v] => match peek v fm with
    | some (.list ds) => some (.fre (.lst ds), fm)
    | some (.tuple ds) => some (.fre (.lst ds), fm)
    | _ => none
  | _ => none
theorem p_list : PrimA K (fun xs H Q => ∃ p ys, xs = [.ref p] ∧ (SqL K H p ys ∨ SqT K H p ys) ∧ ∀ l, H l = none → Q (.ref l) (upd H l (.lst ys))) fList := by
  intro F H σ fm fm' vs xs v R Vs h Q q
  unfold fList at h
  split at h
  · obtain ⟨y, rfl, V⟩ := vsrel1 Vs
    split at h
    · rename_i ds h1
      cases h
      obtain ⟨a, ys, rfl, s1, r1⟩ := peek_list R V h1
      exact ⟨a, ys, rfl, .inl s1, fun l hl => q _ F _ (Aft.lay R hl) (Aft.newL R hl r1) (VNew.ref hl)⟩
    · rename_i ds h1
      cases h
      obtain ⟨a, ys, rfl, s1, r1⟩ := peek_tup R V h1
      exact ⟨a, ys, rfl, .inr s1.1, fun l hl => q _ F _ (Aft.lay R hl) (Aft.newL R hl r1) (VNew.ref hl)⟩
    · cases h
  · cases h
def fTuple : FA := fun vs fm => match vs with
  | [v] => match peek v fm with
    | some (.list ds) => some (.dat (.tuple ds), fm)
    | some (.tuple ds) => some (.dat (.tuple ds), fm)
    | _ => none
  | _ => none
theorem p_tuple : PrimA K (fun xs H Q => ∃ p ys, xs = [.ref p] ∧ ((SqL K H p ys ∧ rNewP ys H Q) ∨ (SqT K H p ys ∧ Q (.ref p) H))) fTuple := by
  intro F H σ fm fm' vs xs v R Vs h Q q
  unfold fTuple at h
  split at h
  · obtain ⟨y, rfl, V⟩ := vsrel1 Vs
    split at h
    · rename_i ds h1
      cases h
      obtain ⟨a, ys, rfl, s1, r1⟩ := peek_list R V h1
      exact ⟨a, ys, rfl, .inl ⟨s1, fun l o hl hd => q _ _ _ (Aft.layF R hl) (Aft.newT R hl hd r1) VNew.dat⟩⟩
    · rename_i ds h1
      cases h
      have p1 := peek_flat R V h1 (fun _ e => nomatch e)
      obtain ⟨a, ys, rfl, s1, r1⟩ := peek_tup R V h1
      exact ⟨a, ys, rfl, .inr ⟨s1.1, q _ F H (Aft.refl R) p1 VNew.dat⟩⟩
    · cases h
  · cases h
def rStrX : List V → Hp → VK → Prop := fun xs H Q => (∃ i, xs = [.int i] ∧ i.natAbs.log2 < 1920 ∧ Q (.str (toString i)) H) ∨ ∃ b, xs = [.bl b] ∧ Q (.str (if b then "True" else "False")) H
theorem call_strX : CallR X (.type "str") rStrX := by
  intro pins s σ H xs us Q I r h
  rcases h with h | ⟨b, rfl, q⟩
  · exact call_str_int pins s σ H xs us Q I r h
  · cases r with
    | cons r1 r2 =>
      cases r2
      cases r1
      exact PySem.P.str_of_bool ⟨.str _, H, I.tok _, ⟨_, rfl⟩, q⟩
def fStr : FA := fun vs fm => match vs with
  | [v] => match peek v fm with
    | some (.int i) => if i.natAbs.log2 < 1920 then some (.dat (.str (toString i)), fm) else none
    | some (.bool b) => some (.dat (.str (if b then "True" else "False")), fm)
    | _ => none
  | _ => none
theorem p_str : PrimA K rStrX fStr := by
  intro F H σ fm fm' vs xs v R Vs h Q q
  unfold fStr at h
  split at h
  · obtain ⟨y, rfl, V⟩ := vsrel1 Vs
    split at h
    · rename_i i h1
      split at h
      · rename_i hz
        cases h
        cases peek_int R V h1
        exact .inl ⟨i, rfl, hz, q _ F H (Aft.refl R) (.str _) VNew.dat⟩
      · cases h
    · rename_i b h1
      cases h
      cases peek_bool R V h1
      exact .inr ⟨b, rfl, q _ F H (Aft.refl R) (.str _) VNew.dat⟩
    · cases h
  · cases h
end
end Rf

namespace Rf
open PySem L2
section
variable {K : PySem.W.Frag} {F F' F0 F1 H H' H0 H1 : Hp} {σ σ' : L2.St} {fm fm0 fm1 fm' : Fm} {x : V} {i : Nat} {ro : List Nat}
def fzV : SV → SV
  | .fre c => match c.dat with
    | some d => .dat d
    | none => .fre c
  | .dat d => .dat d
  | .bor i => .bor i
  | .thr x => .thr x
def mFz (m : MA) : MA := fun fm => match m fm with
  | some (vs, fm1) => some (vs.map fzV, fm1)
  | none => none
theorem VsRel.frzAt {p : Addr} {o : HO} (hf : F p = none) : ∀ {vs : List SV} {xs : List V}, VsRel K F H σ fm vs xs → (∀ (j : Nat) (c' : Cell), vs[j]? = some (.fre c') → xs[j]? ≠ some (.ref p)) → VsRel K (upd F p o) H σ fm vs xs
  | _, _, .nil, _ => .nil
  | _, _, .cons (v := v) (x := x) h r d, ne => by
    refine .cons ?_ (VsRel.frzAt hf r fun j c' e => by simpa using ne (j + 1) c' (by simpa using e)) d
    cases v with
    | thr _ => exact h.elim
    | dat d' => exact dp_mono (Same.upd' hf) h
    | bor i => exact h
    | fre c =>
      obtain ⟨q, rfl, hq, hc, hl⟩ := h
      have nq : q ≠ p := fun z => ne 0 c rfl (by subst z; rfl)
      exact ⟨q, rfl, by rw [upd_ne nq]; exact hq, hc.mono (Same.upd' hf) fun _ h => h, hl⟩
theorem fzAll_ok : ∀ {vs : List SV} {xs : List V} {F : Hp}, Aft K σ F0 H0 fm0 F H fm → VsRel K F H σ fm vs xs → VsNew H0 vs xs →
    ∃ F', Aft K σ F0 H0 fm0 F' H fm ∧ Same F F' ∧ (∀ a o, F' a = some o → F a = some o ∨ ∃ (j : Nat) (c : Cell), vs[j]? = some (.fre c) ∧ xs[j]? = some (.ref a)) ∧ VsRel K F' H σ fm (vs.map fzV) xs ∧ VsNew H0 (vs.map fzV) xs
  | _, _, F, A, .nil, _ => ⟨F, A, Same.refl _, fun _ _ h => .inl h, .nil, .nil⟩
  | _, _, F, A, .cons (v := v) (x := x) (vs := vs) (xs := xs) hv hr hd, .cons hn hnr => by
    have go : ∀ {F1 : Hp}, Aft K σ F0 H0 fm0 F1 H fm → Same F F1 → (∀ a o, F1 a = some o → F a = some o ∨ ∃ c, v = .fre c ∧ x = .ref a) → VsRel K F1 H σ fm vs xs → (∀ {F2 : Hp}, Same F1 F2 → (∀ a o, F2 a = some o → F1 a = some o ∨ ∃ (j : Nat) (c : Cell), vs[j]? = some (.fre c) ∧ xs[j]? = some (.ref a)) → VRel K F2 H σ fm (fzV v) x) → VNew H0 (fzV v) x → (∀ c, fzV v = .fre c → v = .fre c) →
        ∃ F', Aft K σ F0 H0 fm0 F' H fm ∧ Same F F' ∧ (∀ a o, F' a = some o → F a = some o ∨ ∃ (j : Nat) (c : Cell), (v :: vs)[j]? = some (.fre c) ∧ (x :: xs)[j]? = some (.ref a)) ∧ VsRel K F' H σ fm ((v :: vs).map fzV) (x :: xs) ∧ VsNew H0 ((v :: vs).map fzV) (x :: xs) := by
      intro F1 A1 s1 n1 V1 hx hnx hfz
      obtain ⟨F2, A2, s2, n2, V2, N2⟩ := fzAll_ok A1 V1 hnr
      refine ⟨F2, A2, s1.trans s2, fun a o q => ?_, .cons (hx s2 n2) V2 fun c ec j c' ej => ?_, .cons hnx N2⟩
      · rcases n2 a o q with z | ⟨j, c, h1, h2⟩
        · rcases n1 a o z with z | ⟨c, rfl, rfl⟩
          · exact .inl z
          · exact .inr ⟨0, c, rfl, rfl⟩
        · exact .inr ⟨j + 1, c, by simpa using h1, by simpa using h2⟩
      · rw [List.getElem?_map] at ej
        obtain ⟨w, hw, ew⟩ := Option.map_eq_some_iff.mp ej
        refine hd c (hfz c ec) j c' ?_
        cases w with
        | thr _ => cases ew
        | dat d => cases ew
        | bor i => cases ew
        | fre c2 =>
          rw [hw]
          simp only [fzV] at ew
          split at ew
          · cases ew
          · cases ew; rfl
    cases v with
    | thr _ => exact hv.elim
    | dat d => exact go A (Same.refl _) (fun _ _ h => .inl h) hr (fun s2 _ => dp_mono s2 hv) trivial (fun c ec => by cases ec)
    | bor i => exact go A (Same.refl _) (fun _ _ h => .inl h) hr (fun s2 _ => hv) trivial (fun c ec => by cases ec)
    | fre c =>
      obtain ⟨p, rfl, hf, hc, hl⟩ := hv
      cases hdat : c.dat with
      | none =>
        refine go A (Same.refl _) (fun _ _ h => .inl h) hr (fun {F2} s2 n2 => ?_) (by simp only [fzV, hdat]; exact hn) (fun c' ec => by simpa only [fzV, hdat] using ec)
        simp only [fzV, hdat]
        refine ⟨p, rfl, ?_, hc.mono s2 fun _ h => h, hl⟩
        cases q : F2 p with
        | none => rfl
        | some u =>
          rcases n2 p u q with z | ⟨j, c', h1, h2⟩
          · rw [hf] at z; cases z
          · exact absurd h2 (hd c rfl j c' h1)
      | some d =>
        obtain ⟨o, ho⟩ := hc.some'
        have e : Same F (upd F p o) := Same.upd' hf
        have A1 : Aft K σ F0 H0 fm0 (upd F p o) H fm := ⟨⟨A.ext.same.trans e, A.ext.keep, fun a u q => by
          by_cases z : a = p
          · subst z; exact .inr (.inl (hn _ rfl))
          · rw [upd_ne z] at q; exact A.ext.new a u q, A.ext.live, A.ext.grow⟩, A.kp, A.rel.frz1 hf ho hl⟩
        refine go A1 e (fun a u q => ?_) (VsRel.frzAt hf hr fun j c' h => hd c rfl j c' h) (fun {F2} s2 _ => ?_) (by simp only [fzV, hdat]; trivial) (fun c' ec => by simp only [fzV, hdat] at ec; cases ec)
        · by_cases z : a = p
          · subst z; exact .inr ⟨c, rfl, rfl⟩
          · rw [upd_ne z] at q; exact .inl q
        · simp only [fzV, hdat]
          exact dp_mono s2 (hc.frz hf ho hdat)
theorem tA_fz {m : MA} {H : Hp} {Q : List V → Hp → Prop} (h : tA K (mFz m) σ H Q) : tA K m σ H Q := by
  obtain ⟨F, fm, ws, fm', R, em, q⟩ := h
  unfold mFz at em
  split at em
  · rename_i vs fm1 e1
    cases em
    refine ⟨F, fm, vs, _, R, e1, fun xs F1 H1 A V N => ?_⟩
    obtain ⟨F2, A2, _, _, V2, N2⟩ := fzAll_ok A V N
    exact q xs F2 H1 A2 V2 N2
  · cases em
def frzS (i : Nat) (fm : Fm) : Fm := match fm[i]? with
  | some (some (.own c)) => match c.dat with
    | some d => fm.set i (some (.dat d))
    | none => fm
  | _ => fm
def frzL : List Nat → Fm → Fm
  | [], fm => fm
  | i :: is, fm => frzL is (frzS i fm)
def mGh (is : List Nat) (m : MS) : MS := fun fm => match m fm with
  | some (.nx, fm1) => some (.nx, frzL is fm1)
  | r => r
theorem frzS_aft (A : AftS K ro σ F0 H0 fm0 σ' F H fm) : ∃ F', AftS K ro σ F0 H0 fm0 σ' F' H (frzS i fm) := by
  unfold frzS
  split
  · rename_i c hi
    split
    · rename_i d hd
      obtain ⟨p, hx, _, _⟩ := A.rel.own i c hi
      obtain ⟨F1, E1, _, _, R1, _, _, _⟩ := frz_ok (v := .bor i) (x := .ref p) (d := d) (fm' := fm.set i (some (.dat d))) A.ext A.rel ⟨hx, _, hi⟩ trivial (by simp only [frz, hi, hd])
      exact ⟨F1, E1, R1, A.pin⟩
    · exact ⟨F, A⟩
  · exact ⟨F, A⟩
theorem frzL_aft : ∀ {is : List Nat} {F : Hp} {fm : Fm}, AftS K ro σ F0 H0 fm0 σ' F H fm → ∃ F', AftS K ro σ F0 H0 fm0 σ' F' H (frzL is fm)
  | [], F, _, A => ⟨F, A⟩
  | i :: is, _, _, A => by
    obtain ⟨F1, A1⟩ := frzS_aft (i := i) A
    exact frzL_aft (is := is) A1
theorem tS_gh {W : WX} {is : List Nat} {m : MS} {D : Ends} {H : Hp} (h : tS K W ro (mGh is m) D σ H) : tS K W ro m D σ H := by
  obtain ⟨F, fm, fl, fm', R, em, q⟩ := h
  unfold mGh at em
  split at em
  · rename_i fm1 e1
    cases em
    refine ⟨F, fm, .nx, fm1, R, e1, fun σ' F' H' A => ?_⟩
    obtain ⟨F2, A2⟩ := frzL_aft (is := is) A
    exact q σ' F2 H' A2
  · exact ⟨F, fm, fl, fm', R, em, q⟩
end
theorem ss_gh {X : Cx} {ro : List Nat} {st : Stmt} {is : List Nat} {m : MS} (h : SS X ro st m) : SS X ro st (mGh is m) := fun W tk => ps_le (h W tk) fun D σ H q => tS_gh q
end Rf

namespace Rf
open PySem PySem.Spec PyProof.Rows L2
def frz1 : Option S0 → Option S0
  | some (.own c) => match c.dat with
    | some d => some (.dat d)
    | none => some (.own c)
  | s => s
def dropOwn : Option S0 → Option S0
  | some (.own _) => none
  | s => s
def frzO : Option S0 → Option S0
  | some (.own c) => match c.dat with
    | some d => some (.dat d)
    | none => none
  | s => s
def mTmp (m : MT) : MT := fun fm => match m (fm.map frzO) with
  | some (b, _) => some (b, fm)
  | none => none
theorem frzO_eq (s : Option S0) : frzO s = dropOwn (frz1 s) := by
  rcases s with _ | (d | c)
  · rfl
  · rfl
  · simp only [frzO, frz1]
    cases c.dat <;> rfl
theorem frz1_idem (s : Option S0) : frz1 (frz1 s) = frz1 s := by
  rcases s with _ | (d | c)
  · rfl
  · rfl
  · cases h : c.dat with
    | none => simp only [frz1, h]
    | some d => simp only [frz1, h]
theorem frzS_get (i j : Nat) (fm : Fm) : (frzS i fm)[j]? = if i = j then fm[j]?.map frz1 else fm[j]? := by
  unfold frzS
  by_cases e : i = j
  · subst e
    rw [if_pos rfl]
    cases h : fm[i]? with
    | none => simpa using h
    | some s =>
      have hl : i < fm.length := (List.getElem?_eq_some_iff.mp h).1
      rcases s with _ | (d | c)
      · simpa [frz1] using h
      · simpa [frz1] using h
      · simp only [Option.map_some, frz1]
        cases hc : c.dat with
        | none => simpa using h
        | some d => simp only [List.getElem?_set_self hl]
  · rw [if_neg e]
    split
    · split
      · rw [List.getElem?_set_ne e]
      · rfl
    · rfl
theorem frzL_get : ∀ (is : List Nat) (j : Nat) (fm : Fm), (frzL is fm)[j]? = if j ∈ is then fm[j]?.map frz1 else fm[j]?
  | [], j, fm => by simp [frzL]
  | i :: is, j, fm => by
    rw [frzL, frzL_get is j (frzS i fm), frzS_get]
    by_cases e : i = j
    · subst e
      simp only [if_true, List.mem_cons, true_or]
      split
      · cases fm[i]? with
        | none => rfl
        | some s => simp [frz1_idem]
      · rfl
    · have e' : ¬ j = i := fun z => e z.symm
      simp [e, e']
theorem frzT_eq (fm : Fm) : fm.map frzO = (frzL (List.range fm.length) fm).map dropOwn := by
  apply List.ext_getElem?
  intro j
  rw [List.getElem?_map, List.getElem?_map, frzL_get]
  by_cases h : j < fm.length
  · rw [if_pos (List.mem_range.2 h)]
    cases fm[j]? with
    | none => rfl
    | some s => simp [frzO_eq]
  · rw [if_neg fun z => h (List.mem_range.1 z), List.getElem?_eq_none (by omega)]
    rfl
section
variable {K : PySem.W.Frag} {F F' H H' : Hp} {σ : L2.St} {fm : Fm}
theorem rel_dropT (R : Rel K F H σ fm) : Rel K F H σ (fm.map dropOwn) := by
  have no : ∀ (i : Nat) (c : Cell), (fm.map dropOwn)[i]? ≠ some (some (.own c)) := fun i c h => by
    rw [List.getElem?_map] at h
    cases e : fm[i]? with
    | none => rw [e] at h; cases h
    | some s =>
      rw [e] at h
      rcases s with _ | (d | c) <;> simp [dropOwn] at h
  refine ⟨R.sub, by rw [List.length_map]; exact R.len, fun i d h => ?_, fun i c h => absurd h (no i c), fun i j c c' p _ h => absurd h (no i c)⟩
  rw [List.getElem?_map] at h
  cases e : fm[i]? with
  | none => rw [e] at h; cases h
  | some s =>
    rw [e] at h
    rcases s with _ | (d' | c) <;> simp [dropOwn] at h
    subst h
    exact R.dat i _ e
theorem drop_live {p : Addr} (h : Live σ (fm.map dropOwn) p) : False := by
  obtain ⟨i, c, h1, _⟩ := h
  rw [List.getElem?_map] at h1
  cases e : fm[i]? with
  | none => rw [e] at h1; cases h1
  | some s =>
    rw [e] at h1
    rcases s with _ | (d | c) <;> simp [dropOwn] at h1
theorem tT_tmp {m : MT} {Q : Bool → Hp → Prop} (h : tT K (mTmp m) σ H Q) : tT K m σ H Q := by
  obtain ⟨F, fm, b, fm', R, em, q⟩ := h
  unfold mTmp at em
  split at em
  · rename_i b' fm2 e1
    cases em
    rw [frzT_eq] at e1
    obtain ⟨F1, A1⟩ := frzL_aft (is := List.range fm.length) (AftS.refl (ro := []) R)
    refine ⟨F1, _, b, fm2, rel_dropT A1.rel, e1, fun F' H' A => q F H' ⟨⟨Same.refl _, fun a o _ h => A.ext.keep a o (fun z => drop_live z) h, fun _ _ h => .inl h, fun _ h => .inl h, A.ext.grow⟩, Keeps.refl _, ?_⟩⟩
    have kp : ∀ a o, H a = some o → H' a = some o := fun a o h => A.ext.keep a o (fun z => drop_live z) h
    exact ⟨fun a o h => kp a o (R.sub a o h), R.len, R.dat, fun i c h => by
      obtain ⟨p, h1, h2, h3⟩ := R.own i c h
      exact ⟨p, h1, h2, h3.mono (Same.refl _) fun o h => kp p o h⟩, R.apart⟩
  · cases em
end
theorem st_tmp {X : Cx} {e : Expr} {m : MT} (h : ST X e m) : ST X e (mTmp m) := pt_le h fun σ H Q q => tT_tmp q
end Rf

namespace Rf
open PySem L2
def compM2 (g : MG) (mt : MT) (mi1 : MI) (g1 : MG) (mt1 : MT) (me : ME) (vs vs1 : List Nat) : List PyData → Fm → List PyData → Option (List PyData × Fm)
  | [], fm, acc => some (acc, fm)
  | d :: ds, fm, acc => match g d fm with
    | none => none
    | some fm1 => match mt fm1 with
      | none => none
      | some (false, fm2) => compM2 g mt mi1 g1 mt1 me vs vs1 ds (wipeF fm2 vs) acc
      | some (true, fm2) => match mi1 fm2 with
        | none => none
        | some (ds1, fm3) => match compM g1 mt1 me vs1 ds1 (wipeF fm3 vs1) acc with
          | none => none
          | some (acc', fm4) => compM2 g mt mi1 g1 mt1 me vs vs1 ds (wipeF fm4 vs) acc'
def mLc2 (n : Nat) (mi : MI) (g : MG) (mt : MT) (mi1 : MI) (g1 : MG) (mt1 : MT) (me : ME) (vs vs1 : List Nat) : ME := fun fm => match mi fm with
  | none => none
  | some (ds, fm1) => if fm.length ≤ n then (match compM2 g mt mi1 g1 mt1 me vs vs1 ds (wipeF fm1 vs) [] with
    | none => none
    | some (acc, fm2) => match unwipe fm1 fm2 vs with
      | none => none
      | some fm3 => some (.fre (.lst acc), fm3)) else none
structure CAt (K : PySem.W.Frag) (σ : L2.St) (F1 H1 : Hp) (fm1 : Fm) (vs : List Nat) (D : Addr) (τ : L2.St) (Fc Hc : Hp) (fmc : Fm) (acc : List PyData) (accV : List V) : Prop where
  E : Ext (Live σ fm1) F1 H1 (Live τ fmc) Fc Hc
  R : Rel K Fc Hc τ fmc
  fD : Fc D = none
  lD : ¬ Live τ fmc D
  hD : Hc D = some (.lst accV)
  ac : DqAll K Fc accV acc
  len : fmc.length = fm1.length
  kp : ∀ (i : Nat) (s : S0), i ∉ vs → fm1[i]? = some (some s) → ∃ s', fmc[i]? = some (some s')
section
variable {K : PySem.W.Frag} {F F' F1 H H' H1 Fc Hc : Hp} {σ σ' τ τ' : L2.St} {fm fm1 fm' fmc : Fm} {vs ws : List Nat} {D : Addr} {acc : List PyData} {accV : List V} {ro : List Nat} {Q : VK}
theorem CAt.aft (c : CAt K σ F1 H1 fm1 vs D τ Fc Hc fmc acc accV) (A : Aft K τ Fc Hc fmc F' H' fm') : CAt K σ F1 H1 fm1 vs D τ F' H' fm' acc accV := by
  obtain ⟨d1, d2, d3⟩ := A.ext.outF c.fD c.lD c.hD
  refine ⟨c.E.trans A.ext, A.rel, d1, d2, d3, dpAll_mono A.ext.same c.ac, by rw [A.rel.len, ← c.R.len, c.len], fun i s hi h => ?_⟩
  obtain ⟨s1, h1⟩ := c.kp i s hi h
  exact A.kp i s1 h1
theorem CAt.tgt (c : CAt K σ F1 H1 fm1 vs D τ Fc Hc fmc acc accV) (A : AftS K ro τ Fc Hc fmc τ' F' H' fm') (hl : fm'.length = fmc.length) (hk : Keeps fmc fm') : CAt K σ F1 H1 fm1 vs D τ' F' H' fm' acc accV := by
  obtain ⟨d1, d2, d3⟩ := A.ext.outF c.fD c.lD c.hD
  refine ⟨c.E.trans A.ext, A.rel, d1, d2, d3, dpAll_mono A.ext.same c.ac, by rw [hl, c.len], fun i s hi h => ?_⟩
  obtain ⟨s1, h1⟩ := c.kp i s hi h
  exact hk i s1 h1
theorem CAt.wipe (c : CAt K σ F1 H1 fm1 vs D τ Fc Hc fmc acc accV) (hw : ∀ i ∈ ws, i ∈ vs) (e : L2.wipe τ ws = τ') : CAt K σ F1 H1 fm1 vs D τ' Fc Hc (wipeF fmc ws) acc accV := by
  subst e
  refine ⟨⟨c.E.same, c.E.keep, c.E.new, fun p h => c.E.live p (live_wipe h), c.E.grow⟩, c.R.wipe, c.fD, fun z => c.lD (live_wipe z), c.hD, c.ac, by rw [wipeF_len, c.len], fun i s hi h => ?_⟩
  rw [wipeF_out fun z => hi (hw i z)]
  exact c.kp i s hi h
theorem CAt.add {y : V} {d6 : PyData} {F6 : Hp} {fm6 : Fm} (c : CAt K σ F1 H1 fm1 vs D τ Fc Hc fmc acc accV) (hD1 : H1 D = none) (E6 : Ext (Live τ fmc) Fc Hc (Live τ fm6) F6 H') (h3 : H' D = some (.lst accV)) (R6 : Rel K F6 H' τ fm6) (D6 : Dq K F6 y d6)
    (kp6 : ∀ (i : Nat) (s : S0), fmc[i]? = some (some s) → ∃ s1, fm6[i]? = some (some s1)) : CAt K σ F1 H1 fm1 vs D τ F6 (upd H' D (.lst (accV ++ [y]))) fm6 (acc ++ [d6]) (accV ++ [y]) := by
  obtain ⟨l1, l2, _⟩ := E6.outF c.fD c.lD c.hD
  have E7 := c.E.trans E6
  refine ⟨⟨E7.same, fun a o hl h => ?_, E7.new, E7.live, fun a h => ?_⟩, R6.updD l1 l2, l1, l2, upd_same, dpAll_app (dpAll_mono E6.same c.ac) (.cons D6 .nil), by rw [R6.len, ← c.R.len, c.len], fun i s hi h => ?_⟩
  · have ne : a ≠ D := fun z => by subst z; rw [hD1] at h; cases h
    rw [upd_ne ne]; exact E7.keep a o hl h
  · by_cases z : a = D
    · subst z; exact hD1
    · rw [upd_ne z] at h; exact E7.grow a h
  · obtain ⟨s1, h1⟩ := c.kp i s hi h
    exact kp6 i s1 h1
theorem pinned {n : Nat} (hro : ∀ i, i < n → i ∈ ro ∨ i ∈ ws) (hn : σ'.length ≤ n) (hl : τ.length = σ'.length) (hp : ∀ i ∈ ro, τ[i]? = (L2.wipe σ' ws)[i]?) : L2.wipe τ ws = L2.wipe σ' ws := by
  have : L2.wipe τ ws = L2.wipe (L2.wipe σ' ws) ws := wipe_eq (by rw [wipe_length]; exact hl) fun j hj hv => hp j ((hro j (by rw [wipe_length] at hj; omega)).resolve_right hv)
  rw [this]
  exact wipe_eq (wipe_length _ _) fun j hj hv => wipe_out hv
theorem wipe_wipe (hw : ∀ i ∈ ws, i ∈ vs) : L2.wipe (L2.wipe τ ws) vs = L2.wipe τ vs := wipe_eq (wipe_length _ _) fun j hj hv => wipe_out fun z => hv (hw j z)
theorem tE_lc2 {Rl Rl1 : RLT} {n : Nat} {mi mi1 : MI} {ro1 vs1 : List Nat} {g g1 : MG} {mt mt1 : MT} {me : ME} (hg : GOk g) (hg1 : GOk g1) (hro : ∀ i, i < n → i ∈ ro ∨ i ∈ vs) (hro1 : ∀ i, i < n → i ∈ ro1 ∨ i ∈ vs1) (hv : ∀ i ∈ vs1, i ∈ vs)
    (h : tE K (mLc2 n mi g mt mi1 g1 mt1 me vs vs1) σ H Q) : tLc2 (tI K Rl mi) (tG K Rl ro g) (tT K mt) (tI K Rl1 mi1) (tG K Rl1 ro1 g1) (tT K mt1) (tE K me) vs vs1 σ H Q := by
  obtain ⟨F, fm, v, fm', R, em, q⟩ := h
  unfold mLc2 at em
  split at em
  · cases em
  rename_i ds fm1 e1
  split at em
  rotate_left
  · cases em
  rename_i hn
  split at em
  · cases em
  rename_i acc fm2 e2
  split at em
  · cases em
  rename_i fm3 e3
  cases em
  refine ⟨F, fm, ds, fm1, R, e1, fun J F1 H1 A1 IO D hD => ?_⟩
  have hσn : σ.length ≤ n := by rw [← R.len]; exact hn
  have c0 : CAt K σ F1 H1 fm1 vs D (L2.wipe σ vs) F1 (upd H1 D (.lst [])) (wipeF fm1 vs) [] [] := by
    have a := (Aft.lay (o := HO.lst []) A1.rel hD)
    exact ⟨⟨Same.refl _, a.ext.keep, a.ext.new, fun p h => .inl (live_wipe h), a.ext.grow⟩, a.rel.wipe, A1.rel.fnone hD, fun z => A1.rel.nolive hD (live_wipe z), upd_same, .nil, wipeF_len _, fun i s hi h => ⟨s, by rw [wipeF_out hi]; exact h⟩⟩
  refine ⟨fun i m Hc => m = ds.length - i ∧ i ≤ ds.length ∧ ∃ Fc fmc accc accV, CAt K σ F1 H1 fm1 vs D (L2.wipe σ vs) Fc Hc fmc accc accV ∧ compM2 g mt mi1 g1 mt1 me vs vs1 (ds.drop i) fmc accc = some (acc, fm2), ⟨ds.length, rfl, Nat.zero_le _, F1, _, [], [], c0, e2⟩, ?_⟩
  rintro i m Hc ⟨rfl, hi, Fc, fmc, accc, accV, c, el⟩
  by_cases hlt : i < ds.length
  · refine .inr ⟨IO.go i Hc (c.E.same.trans c.R.sub) hlt, fun H' => (i + 1 ≤ ds.length ∧ ∃ Fc fmc accc accV, CAt K σ F1 H1 fm1 vs D (L2.wipe σ vs) Fc H' fmc accc accV ∧ compM2 g mt mi1 g1 mt1 me vs vs1 (ds.drop (i + 1)) fmc accc = some (acc, fm2)), fun H' p => ⟨ds.length - (i + 1), by omega, rfl, p.1, p.2⟩, fun x H' y => ?_⟩
    obtain ⟨F2, G, Dx⟩ := IO.yld i ds[i] Fc Hc x H' (by simp [hlt]) c.E.same c.R.sub y
    have A2 := G.aft c.R
    have c2 := c.aft A2
    rw [List.drop_eq_getElem_cons hlt] at el
    simp only [compM2] at el
    split at el
    · cases el
    rename_i fmg eg
    obtain ⟨gl, gk⟩ := hg _ _ _ eg
    refine ⟨F2, fmc, ds[i], fmg, A2.rel, Dx, eg, fun σ2 F3 H3 A3 => ?_⟩
    have c3 := c2.tgt A3 gl gk
    have l2 : σ2.length = σ.length := by rw [← A3.rel.len, gl, A2.rel.len, wipe_length]
    have hw : L2.wipe σ2 vs = L2.wipe σ vs := pinned hro hσn l2 A3.pin
    refine ⟨hw, ?_⟩
    split at el
    · cases el
    · rename_i fm4 e4
      exact ⟨F3, fmg, _, fm4, A3.rel, e4, fun F4 H4 A4 => iteF ⟨hlt, F4, _, accc, accV, (c3.aft A4).wipe (fun _ h => h) hw, el⟩⟩
    · rename_i fm4 e4
      refine ⟨F3, fmg, _, fm4, A3.rel, e4, fun F4 H4 A4 => iteT ?_⟩
      have c4 := c3.aft A4
      split at el
      · cases el
      rename_i ds1 fm5 e5
      refine ⟨F4, fm4, ds1, fm5, A4.rel, e5, fun J1 F5 H5 A5 IO1 => ?_⟩
      have c5 := c4.aft A5
      split at el
      · cases el
      rename_i acc' fm6 e6
      refine ⟨fun j k Hc => k = ds1.length - j ∧ j ≤ ds1.length ∧ ∃ Fc fmc accc accV, CAt K σ F1 H1 fm1 vs D (L2.wipe σ2 vs1) Fc Hc fmc accc accV ∧ Same F5 Fc ∧ compM g1 mt1 me vs1 (ds1.drop j) fmc accc = some (acc', fm6), ⟨ds1.length, rfl, Nat.zero_le _, F5, _, accc, accV, c5.wipe hv rfl, Same.refl _, e6⟩, ?_⟩
      rintro j k Hd ⟨rfl, hj, Fd, fmd, accd, acdV, c6, sm, el1⟩
      by_cases hlt1 : j < ds1.length
      · refine .inr ⟨IO1.go j Hd (sm.trans c6.R.sub) hlt1, fun H' => (j + 1 ≤ ds1.length ∧ ∃ Fc fmc accc accV, CAt K σ F1 H1 fm1 vs D (L2.wipe σ2 vs1) Fc H' fmc accc accV ∧ Same F5 Fc ∧ compM g1 mt1 me vs1 (ds1.drop (j + 1)) fmc accc = some (acc', fm6)), fun H' p => ⟨ds1.length - (j + 1), by omega, rfl, p.1, p.2⟩, fun x H' y => ?_⟩
        obtain ⟨F7, G7, Dx7⟩ := IO1.yld j ds1[j] Fd Hd x H' (by simp [hlt1]) sm c6.R.sub y
        have A7 := G7.aft c6.R
        have c7 := c6.aft A7
        rw [List.drop_eq_getElem_cons hlt1] at el1
        simp only [compM] at el1
        split at el1
        · cases el1
        rename_i fmh eh
        obtain ⟨gl1, gk1⟩ := hg1 _ _ _ eh
        refine ⟨F7, fmd, ds1[j], fmh, A7.rel, Dx7, eh, fun σ3 F8 H8 A8 => ?_⟩
        have c8 := c7.tgt A8 gl1 gk1
        have hw1 : L2.wipe σ3 vs1 = L2.wipe σ2 vs1 := pinned hro1 (by omega) (by rw [← A8.rel.len, gl1, A7.rel.len, wipe_length]) A8.pin
        have sm8 : Same F5 F8 := (sm.trans A7.ext.same).trans A8.ext.same
        refine ⟨hw1, ?_⟩
        split at el1
        · cases el1
        · rename_i fm9 e9
          exact ⟨F8, fmh, _, fm9, A8.rel, e9, fun F9 H9 A9 => iteF ⟨hlt1, F9, _, accd, acdV, (c8.aft A9).wipe hv hw1, sm8.trans A9.ext.same, el1⟩⟩
        · rename_i fm9 e9
          refine ⟨F8, fmh, _, fm9, A8.rel, e9, fun F9 H9 A9 => iteT ?_⟩
          have c9 := c8.aft A9
          split at el1
          · cases el1
          rename_i v10 fm10 e10
          split at el1
          · cases el1
          rename_i d11 fm11 e11
          split at el1
          rotate_left
          · cases el1
          rename_i hz
          refine ⟨F9, fm9, v10, fm10, A9.rel, e10, fun z F10 H10 A10 V10 N10 => ?_⟩
          obtain ⟨F11, E11, Ea11, s11, R11, D11, kp11, nw11⟩ := frz_ok A10.ext A10.rel V10 N10 e11
          obtain ⟨_, _, j3⟩ := A10.ext.outF c9.fD c9.lD c9.hD
          have c11 := c9.add hD E11 j3 R11 D11 fun i s h => by
            obtain ⟨s1, h1⟩ := A10.kp i s h
            exact kp11 i s1 h1
          exact ⟨acdV, j3, by rw [dpAll_len c9.ac]; exact hz, hlt1, F11, _, _, _, c11.wipe hv hw1, (sm8.trans A9.ext.same).trans E11.same, el1⟩
      · have ej : j = ds1.length := by omega
        subst ej
        rw [List.drop_length] at el1
        cases el1
        exact .inl ⟨IO1.stop Hd (sm.trans c6.R.sub), hlt, Fd, _, _, acdV, c6.wipe (fun _ h => h) (by rw [wipe_wipe hv, hw]), el⟩
  · have e : i = ds.length := by omega
    subst e
    rw [List.drop_length] at el
    cases el
    refine .inl ⟨IO.stop Hc (c.E.same.trans c.R.sub), ?_⟩
    have hsl : ∀ {i : Nat} {s : S0}, fm'[i]? = some (some s) → (i ∈ vs ∧ fm1[i]? = some (some s) ∧ ∃ d, s = .dat d) ∨ (i ∉ vs ∧ fm2[i]? = some (some s)) := fun {i s} => unwipe_get e3
    have lv : ∀ p, Live σ fm' p → Live (L2.wipe σ vs) fm2 p := fun p ⟨i, c, h1, h2⟩ => by
      rcases hsl h1 with ⟨_, _, d, z⟩ | ⟨h3, h4⟩
      · cases z
      · exact ⟨i, c, h4, by rw [wipe_out h3]; exact h2⟩
    refine q _ Fc Hc ⟨A1.ext.trans ⟨c.E.same, c.E.keep, c.E.new, fun p h => c.E.live p (lv p h), c.E.grow⟩, fun i s h => ?_, ⟨c.R.sub, ?_, fun i d h => ?_, fun i x h => ?_, fun i j x x' p hne h1 h2 h3 h4 => ?_⟩⟩ ⟨D, rfl, c.fD, ⟨accV, c.hD, c.ac⟩, fun z => c.lD (lv D z)⟩ (VNew.ref (A1.ext.grow D hD))
    · obtain ⟨s1, h1⟩ := A1.kp i s h
      exact unwipe_keep e3 c.len.symm h1 fun hv => c.kp i s1 hv h1
    · rw [unwipe_len e3, c.len]; exact A1.rel.len
    · rcases hsl h with ⟨_, h1, _⟩ | ⟨h1, h2⟩
      · obtain ⟨y, h3, h4⟩ := A1.rel.dat i d h1
        exact ⟨y, h3, dp_mono c.E.same h4⟩
      · obtain ⟨y, h3, h4⟩ := c.R.dat i d h2
        rw [wipe_out h1] at h3
        exact ⟨y, h3, h4⟩
    · rcases hsl h with ⟨_, _, d, z⟩ | ⟨h1, h2⟩
      · cases z
      · obtain ⟨y, h3, h4⟩ := c.R.own i x h2
        rw [wipe_out h1] at h3
        exact ⟨y, h3, h4⟩
    · rcases hsl h1 with ⟨_, _, d, z⟩ | ⟨a1, a2⟩
      · cases z
      · rcases hsl h2 with ⟨_, _, d, z⟩ | ⟨b1, b2⟩
        · cases z
        · exact c.R.apart i j x x' p hne a2 b2 (by rw [wipe_out a1]; exact h3) (by rw [wipe_out b1]; exact h4)
end
end Rf


namespace Rf
open PySem L2

section
variable {K : PySem.W.Frag} {F F' F1 H H' H1 : Hp} {σ σ' : L2.St} {fm fm' fm1 : Fm} {v : SV} {x : V}
theorem Aft.write {i : Nat} {p : Addr} {c : Cell} {vs : List V} {ds : List PyData} (R : Rel K F H σ fm) (hi : fm[i]? = some (some (.own c))) (hx : σ[i]? = some (some (.ref p))) (r : DqAll K F vs ds) :
    Aft K σ F H fm F (upd H p (.lst vs)) (fm.set i (some (.own (.lst ds)))) := by
  obtain ⟨p', hx', hf, hc⟩ := R.own i c hi
  rw [hx] at hx'; cases hx'
  have lp : Live σ fm p := ⟨i, c, hi, hx⟩
  have hil : i < fm.length := (List.getElem?_eq_some_iff.mp hi).1
  have back : ∀ {j : Nat} {c' : Cell}, (fm.set i (some (.own (.lst ds))))[j]? = some (some (.own c')) → ∃ c'', fm[j]? = some (some (.own c'')) := fun {j c'} h => by
    rcases get_set h with ⟨rfl, _, _⟩ | ⟨_, h⟩
    · exact ⟨c, hi⟩
    · exact ⟨c', h⟩
  refine ⟨⟨Same.refl _, fun a o hl h => ?_, fun a o h => .inl h, fun a h => .inl ?_, fun a h => ?_⟩, keeps_set, ⟨fun b u q => ?_, by rw [List.length_set]; exact R.len, fun j d h => ?_, fun j c' h => ?_, fun j k c' c'' q hne h1 h2 h3 => ?_⟩⟩
  · have ne : a ≠ p := fun z => hl (by rw [z]; exact lp)
    rw [upd_ne ne]; exact h
  · obtain ⟨j, c', h1, h2⟩ := h
    obtain ⟨c'', h3⟩ := back h1
    exact ⟨j, c'', h3, h2⟩
  · by_cases z : a = p
    · subst z; rw [upd_same] at h; cases h
    · rw [upd_ne z] at h; exact h
  · have ne : b ≠ p := fun z => by subst z; rw [hf] at q; cases q
    rw [upd_ne ne]; exact R.sub _ _ q
  · rcases get_set h with ⟨_, e, _⟩ | ⟨_, h⟩
    · cases e
    · exact R.dat j d h
  · rcases get_set h with ⟨rfl, e, _⟩ | ⟨ne, h⟩
    · cases e
      exact ⟨p, hx, hf, vs, upd_same, r⟩
    · obtain ⟨q, h1, h2, h3⟩ := R.own j c' h
      have nq : q ≠ p := fun w => by subst w; exact R.apart i j c c' q ne hi h hx h1
      exact ⟨q, h1, h2, h3.mono (Same.refl _) fun o ho => by rw [upd_ne nq]; exact ho⟩
  · obtain ⟨c1, e1⟩ := back h1
    obtain ⟨c2, e2⟩ := back h2
    exact R.apart j k c1 c2 q hne e1 e2 h3
theorem Rel.ownL {i : Nat} {ds : List PyData} (R : Rel K F H σ fm) (hi : fm[i]? = some (some (.own (.lst ds)))) (hx : σ[i]? = some (some x)) : ∃ p vs, x = .ref p ∧ σ[i]? = some (some (.ref p)) ∧ H p = some (.lst vs) ∧ DqAll K F vs ds := by
  obtain ⟨p, h1, h2, vs, h3, h4⟩ := R.own i _ hi
  have e : x = .ref p := by rw [hx] at h1; exact Option.some.inj (Option.some.inj h1)
  subst e
  exact ⟨p, vs, rfl, hx, h3, h4⟩
end

abbrev FM := SV → List SV → Fm → Option (SV × Fm)
def tyD (T : String) (o : SV) (fm : Fm) : Bool := match peek o fm with
  | some (.list _) => T == "list"
  | some (.tuple _) => T == "tuple"
  | some (.str _) => T == "str"
  | _ => false
def mMt (T : String) (f : FM) (mo : ME) (ma : MA) : ME := fun fm => match mo fm with
  | some (o, fm1) => if tyD T o fm1 then (match ma fm1 with
    | some (vs, fm2) => f o vs fm2
    | none => none) else none
  | none => none
abbrev FZ := SV → List PyData → Fm → Option (SV × Fm)
def mMtZ (T : String) (f : FZ) (mo : ME) (ma : MA) : ME := fun fm => match mo fm with
  | some (o, fm1) => if tyD T o fm1 then (match ma fm1 with
    | some (vs, fm2) => match frzAll vs fm2 with
      | some (ds, fm3) => f o ds fm3
      | none => none
    | none => none) else none
  | none => none
def tyP (K : PySem.W.Frag) (T : String) (x : V) (H : Hp) : Prop := tyV K T x H ∨ (T = "tuple" ∧ ∃ a xs, x = .ref a ∧ SqP K H a xs)
theorem tyD_ok {K : PySem.W.Frag} {F H : Hp} {σ : L2.St} {fm : Fm} {o : SV} {x : V} {T : String} (R : Rel K F H σ fm) (V : VRel K F H σ fm o x) (h : tyD T o fm = true) : tyP K T x H := by
  unfold tyD at h
  split at h
  · rename_i ds e
    obtain ⟨a, vs, rfl, s, _⟩ := peek_list R V e
    exact .inl (.inl ⟨by simpa using h, vs, s⟩)
  · rename_i ds e
    obtain ⟨a, vs, rfl, s, _⟩ := peek_tup R V e
    exact .inr ⟨by simpa using h, a, vs, rfl, s⟩
  · rename_i z e
    have := peek_str R V e
    subst this
    exact .inl (by simpa [tyV] using h)
  · cases h
section
variable {X : Cx} {o e : Expr} {es : List Expr} {name : Str} {apos cpos : Pos} {T id : String} {r : V → List V → Hp → VK → Prop}
theorem tyP_is {pins : List (Addr × Obj)} {σ : L2.St} {H : Hp} {s : Shared} {x : V} {v : Value} (I : Inv X pins σ H s) (r : RelV x v) (ty : tyP X.K T x H) : s.TypeIs v T ∧ ∀ a, v = .ref a → ∃ ob, s.heap.get? a = some ob ∧ ob.dict = none := by
  rcases ty with ty | ⟨rfl, a, xs, rfl, h1, h2⟩
  · exact tyV_is I r ty
  · cases r
    obtain ⟨its, _, t, _⟩ := I.tuple h1
    refine ⟨t.typeIs, fun b e => ?_⟩
    cases e
    rcases h2 with ⟨ob, hf, hd⟩ | ⟨ob, hk, _, hd⟩
    · exact ⟨ob, (I.hok _ _ hf).1, hd⟩
    · exact ⟨ob, I.kIn _ ob hk, hd⟩
def tMtP (K : PySem.W.Frag) (T : String) (r : V → List V → Hp → VK → Prop) (to : TE) (t : TA) : TE := fun σ H Q => to σ H fun x H1 => tyP K T x H1 ∧ t σ H1 fun xs H2 => r x xs H2 Q
theorem pe_mtP {to : TE} {t : TA} (pa : PlainAttrs T) (slot : Slot T name id) (hty : typeOf (.builtin id) = pure (.type "method_descriptor")) (hm : MtR X id r) (ho : PE X o to) (ha : PA X (e :: es) t)
    (hbase : attributeBase o name X.env (eval o X.env) = eval o X.env)
    (hfew : ((backTo cpos (starEach (e :: es) X.env)).all (fun x => !x.1) && (backToKw cpos (keywordEach [] X.env)).all (fun x => x.1.isSome) && decide ((e :: es).length + ([] : List Keyword).length + (if ([] : List Keyword).isEmpty then 0 else 1) < 30)) = true)
    (hline : (apos.endLine == cpos.line) = true) (hs : starEach (e :: es) X.env = (false, eval e X.env) :: starEach es X.env) (hplain : (backTo cpos (starEach es X.env)).any (·.1) = false) :
    PE X (.Call (.Attribute o name apos) (e :: es) [] cpos) (tMtP X.K T r to t) := by
  refine ⟨fun pins s σ H Q I h => ?_⟩
  refine wpAny_Call_method_late hbase hfew hline rfl (thn (ho.run pins s σ H _ I h) fun v s1 got => ?_)
  obtain ⟨x, H1, I1, r1, ty, q1⟩ := got
  obtain ⟨t1, t2⟩ := tyP_is I1 r1 ty
  refine ⟨T, id, pa, slot, hty, t1, t2, ?_⟩
  have hA := ha.run cpos pins s1 σ H1 _ I1 q1
  rw [hs] at hA ⊢
  have hp : (((false, eval e X.env) :: backTo cpos (starEach es X.env)).any (·.1)) = false := by
    rw [List.any_cons, hplain]; rfl
  refine Calls.callWith_builtin hp (Calls.evalArgs_plain (thn hA fun us s2 got => ?_))
  obtain ⟨vs, H2, I2, r2, q2⟩ := got
  exact hm pins s2 σ H2 x vs v us Q I2 r1 r2 q2
end
def PrimM (K : PySem.W.Frag) (r : V → List V → Hp → VK → Prop) (f : FM) : Prop := ∀ (F H : Hp) (σ : L2.St) (fm fm' : Fm) (o : SV) (vs : List SV) (x : V) (xs : List V) (v : SV), Rel K F H σ fm → VRel K F H σ fm o x → VsRel K F H σ fm vs xs → f o vs fm = some (v, fm') →
  ∀ Q : VK, (∀ z F' H', Aft K σ F H fm F' H' fm' → VRel K F' H' σ fm' v z → VNew H v z → Q z H') → r x xs H Q
def PrimZ (K : PySem.W.Frag) (r : V → List V → Hp → VK → Prop) (f : FZ) : Prop := ∀ (F H : Hp) (σ : L2.St) (fm fm' : Fm) (o : SV) (ds : List PyData) (x : V) (xs : List V) (v : SV), Rel K F H σ fm → VRel K F H σ fm o x → DqAll K F xs ds → f o ds fm = some (v, fm') →
  ∀ Q : VK, (∀ z F' H', Aft K σ F H fm F' H' fm' → VRel K F' H' σ fm' v z → VNew H v z → Q z H') → r x xs H Q
section
variable {K : PySem.W.Frag} {σ : L2.St} {H : Hp} {Q : VK} {T : String} {r : V → List V → Hp → VK → Prop} {mo : ME} {ma : MA}
theorem tE_mt {f : FM} (P : PrimM K r f) (h : tE K (mMt T f mo ma) σ H Q) : tMtP K T r (tE K mo) (tA K ma) σ H Q := by
  obtain ⟨F, fm, v, fm', R, em, q⟩ := h
  unfold mMt at em
  split at em
  · rename_i o fm1 e1
    split at em
    · rename_i ht
      split at em
      · rename_i vs fm2 e2
        refine ⟨F, fm, o, fm1, R, e1, fun x F1 H1 A1 V1 N1 => ⟨tyD_ok A1.rel V1 ht, F1, fm1, vs, fm2, A1.rel, e2, fun xs F2 H2 A2 V2 N2 => ?_⟩⟩
        exact P F2 H2 σ fm2 fm' o vs x xs v A2.rel (A2.val V1) V2 em Q fun z F3 H3 A3 V3 N3 => q z F3 H3 ((A1.trans A2).trans A3) V3 ((A1.trans A2).new N3)
      · cases em
    · cases em
  · cases em
theorem tE_mtZ {f : FZ} (P : PrimZ K r f) (h : tE K (mMtZ T f mo ma) σ H Q) : tMtP K T r (tE K mo) (tA K ma) σ H Q := by
  obtain ⟨F, fm, v, fm', R, em, q⟩ := h
  unfold mMtZ at em
  split at em
  · rename_i o fm1 e1
    split at em
    · rename_i ht
      split at em
      · rename_i vs fm2 e2
        split at em
        · rename_i ds fm3 e3
          refine ⟨F, fm, o, fm1, R, e1, fun x F1 H1 A1 V1 N1 => ⟨tyD_ok A1.rel V1 ht, F1, fm1, vs, fm2, A1.rel, e2, fun xs F2 H2 A2 V2 N2 => ?_⟩⟩
          obtain ⟨F3, A3, D3⟩ := aft_frzAll A2 V2 N2 e3
          exact P F3 H2 σ fm3 fm' o ds x xs v A3.rel (A3.val V1) D3 em Q fun z F4 H4 A4 V4 N4 => q z F4 H4 ((A1.trans A3).trans A4) V4 ((A1.trans A3).new N4)
        · cases em
      · cases em
    · cases em
  · cases em
end
def fAppend : FZ := fun o ds fm => match o, ds with
  | .bor i, [d] => match fm[i]? with
    | some (some (.own (.lst xs))) => if xs.length < sizeLine then some (.dat .none, fm.set i (some (.own (.lst (xs ++ [d]))))) else none
    | _ => none
  | _, _ => none
def fInsert : FZ := fun o ds fm => match o, ds with
  | .bor i, [.int k, d] => match fm[i]? with
    | some (some (.own (.lst xs))) => if xs.length < sizeLine ∧ 0 ≤ k ∧ k < 2 ^ 63 then some (.dat .none, fm.set i (some (.own (.lst (xs.take k.toNat ++ [d] ++ xs.drop k.toNat))))) else none
    | _ => none
  | _, _ => none
def fExtend : FM := fun o vs fm => match o, vs with
  | .bor i, [.fre (.lst es)] => match fm[i]? with
    | some (some (.own (.lst xs))) => if xs.length + es.length ≤ sizeLine then some (.dat .none, fm.set i (some (.own (.lst (xs ++ es))))) else none
    | _ => none
  | _, _ => none
def fPopAt : FM := fun o vs fm => match o, vs with
  | .bor i, [w] => match fm[i]?, peek w fm with
    | some (some (.own (.lst xs))), some (.int k) => if -(2 ^ 63) ≤ k ∧ k < 2 ^ 63 then (match seqIndex? k xs.length with
      | some j => match xs[j]? with
        | some d => some (.dat d, fm.set i (some (.own (.lst (xs.eraseIdx j)))))
        | none => none
      | none => none) else none
    | _, _ => none
  | _, _ => none
section
variable {K : PySem.W.Frag}
theorem p_append : PrimZ K rAppend fAppend := by
  intro F H σ fm fm' o ds x xs v R V D h Q q
  unfold fAppend at h
  split at h
  · rename_i i d
    obtain ⟨hx, _⟩ := V
    cases D with
    | cons D1 D2 =>
      cases D2
      split at h
      · rename_i es hi
        split at h
        · rename_i hl
          cases h
          obtain ⟨p, vs, rfl, hs, hp, r⟩ := R.ownL hi hx
          refine ⟨p, vs, _, rfl, rfl, hp, by rw [dpAll_len r]; exact hl, ?_⟩
          exact q _ F _ (Aft.write R hi hs (dpAll_app r (.cons D1 .nil))) .non VNew.dat
        · cases h
      · cases h
  · cases h
theorem p_extend : PrimM K rExtend fExtend := by
  intro F H σ fm fm' o ws x xs v R V D h Q q
  unfold fExtend at h
  split at h
  · rename_i i es
    obtain ⟨hx, _⟩ := V
    obtain ⟨y, rfl, Vy⟩ := vsrel1 D
    obtain ⟨b, rfl, hf, ⟨us, hb, rb⟩, hn⟩ := Vy
    split at h
    · rename_i es' hi
      split at h
      · rename_i hl
        cases h
        obtain ⟨p, vs, rfl, hs, hp, r⟩ := R.ownL hi hx
        refine ⟨p, b, vs, us, rfl, rfl, hp, hb, by rw [dpAll_len r, dpAll_len rb]; exact hl, ?_⟩
        exact q _ F _ (Aft.write R hi hs (dpAll_app r rb)) .non VNew.dat
      · cases h
    · cases h
  · cases h
theorem p_popAt : PrimM K rPopAt fPopAt := by
  intro F H σ fm fm' o ws x xs v R V D h Q q
  unfold fPopAt at h
  split at h
  · rename_i i w
    obtain ⟨hx, _⟩ := V
    obtain ⟨y, rfl, Vy⟩ := vsrel1 D
    split at h
    · rename_i es k hi hk
      split at h
      · rename_i hb
        split at h
        · rename_i j hj
          split at h
          · rename_i d hd
            cases h
            obtain ⟨p, vs, rfl, hs, hp, r⟩ := R.ownL hi hx
            obtain ⟨u, hu, Du⟩ := dpAll_get r hd
            refine ⟨p, vs, k, j, u, rfl, by rw [peek_int R Vy hk], hp, hb.1, hb.2, by rw [dpAll_len r]; exact hj, hu, ?_⟩
            exact q _ F _ (Aft.write R hi hs (dpAll_erase j r)) Du VNew.dat
          · cases h
        · cases h
      · cases h
    · cases h
  · cases h
end
end Rf

namespace Rf
open PySem L2

def mChain (f f' : F2) (ma mb mc : ME) : ME := fun fm => match ma fm with
  | some (va, fm1) => match mb fm1 with
    | some (vb, fm2) => match f va vb fm2 with
      | some (.dat (.bool true), fm3) => match mc fm3 with
        | some (vc, fm4) => f' vb vc fm4
        | none => none
      | some (.dat (.bool false), fm3) => some (.dat (.bool false), fm3)
      | _ => none
    | none => none
  | none => none
section
variable {K : PySem.W.Frag} {X : Cx} {a b c : Expr} {pos : Pos}
theorem tE_chain {r r' : R2} {f f' : F2} {ma mb mc : ME} (P : Prim2 K r f) (P' : Prim2 K r' f') {σ : L2.St} {H : Hp} {Q : VK} (h : tE K (mChain f f' ma mb mc) σ H Q) : tChain r r' (tE K ma) (tE K mb) (tE K mc) σ H Q := by
  obtain ⟨F, fm, v, fm', R, em, q⟩ := h
  unfold mChain at em
  split at em
  · rename_i va fm1 e1
    split at em
    · rename_i vb fm2 e2
      refine ⟨F, fm, va, fm1, R, e1, fun x F1 H1 A1 V1 N1 => ⟨F1, fm1, vb, fm2, A1.rel, e2, fun y F2 H2 A2 V2 N2 => ?_⟩⟩
      split at em
      · rename_i fm3 e3
        split at em
        · rename_i vc fm4 e4
          refine P F2 H2 σ fm2 fm3 va vb x y _ A2.rel (A2.val V1) V2 e3 _ fun z F3 H3 A3 V3 N3 => ?_
          cases (show Dq K F3 z (.bool true) from V3)
          refine ⟨true, rfl, iteT ⟨F3, fm3, vc, fm4, A3.rel, e4, fun w F4 H4 A4 V4 N4 => ?_⟩⟩
          have A := ((A1.trans A2).trans A3).trans A4
          exact P' F4 H4 σ fm4 fm' vb vc y w v A4.rel ((A3.trans A4).val V2) V4 em Q fun z F5 H5 A5 V5 N5 => q z F5 H5 (A.trans A5) V5 (A.new N5)
        · cases em
      · rename_i fm3 e3
        cases em
        refine P F2 H2 σ fm2 _ va vb x y _ A2.rel (A2.val V1) V2 e3 _ fun z F3 H3 A3 V3 N3 => ?_
        cases (show Dq K F3 z (.bool false) from V3)
        exact ⟨false, rfl, iteF (q _ F3 H3 ((A1.trans A2).trans A3) (.bl false) VNew.dat)⟩
      · cases em
    · cases em
  · cases em
theorem se_chain {op op' : CmpOp} {r r' : R2} {f f' : F2} {ma mb mc : ME} (ho : OpR X (compareOp op) r) (ho' : OpR X (compareOp op') r') (P : Prim2 X.K r f) (P' : Prim2 X.K r' f') (ha : SE X a ma) (hb : SE X b mb) (hc : SE X c mc) (hm : lastMarks [op, op'] [b, c] = false) :
    SE X (.Compare a [op, op'] [b, c] pos) (mChain f f' ma mb mc) := pe_le (pe_chain ho ho' ha hb hc hm) fun σ H Q h => tE_chain P P' h
theorem st_chain {op op' : CmpOp} {r r' : R2} {f f' : F2} {ma mb mc : ME} (ho : OpR X (compareOp op) r) (ho' : OpR X (compareOp op') r') (P : Prim2 X.K r f) (P' : Prim2 X.K r' f') (ha : SE X a ma) (hb : SE X b mb) (hc : SE X c mc) (hm : lastMarks [op, op'] [b, c] = false) :
    ST X (.Compare a [op, op'] [b, c] pos) (mB (mChain f f' ma mb mc)) := pt_le (pt_chain ho ho' ha hb hc hm) fun σ H Q h => by
  obtain ⟨F, fm, v, fm', R, em, q⟩ := tT_B h
  exact tE_chain P P' ⟨F, fm, v, fm', R, em, q⟩
end

def cutD (ds : List PyData) (lo hi : Option Int) : List PyData := (ds.drop (HT.sIx ds.length 0 lo)).take (HT.sIx ds.length ds.length hi - HT.sIx ds.length 0 lo)
abbrev MO := Fm → Option (Option Int × Fm)
def oNone : MO := fun fm => some (none, fm)
def oSome (m : ME) : MO := fun fm => match m fm with
  | some (.dat (.int i), fm1) => some (some i, fm1)
  | _ => none
def mSl (mo : ME) (ml mh : MO) : ME := fun fm => match mo fm with
  | some (v, fm1) => match ml fm1 with
    | some (lo, fm2) => match mh fm2 with
      | some (hi, fm3) => match peek v fm3 with
        | some (.list ds) => some (.fre (.lst (cutD ds lo hi)), fm3)
        | some (.tuple ds) => some (.dat (.tuple (cutD ds lo hi)), fm3)
        | _ => none
      | none => none
    | none => none
  | none => none
def tO (K : PySem.W.Frag) (m : MO) : TO := fun σ H Q => ∃ F fm i fm', Rel K F H σ fm ∧ m fm = some (i, fm') ∧ ∀ F' H', Aft K σ F H fm F' H' fm' → Q i H'
def SO (X : Cx) (e : Option Expr) (m : MO) : Prop := PO X e (tO X.K m)
section
variable {K : PySem.W.Frag} {X : Cx} {e : Expr} {lo hi : Option Expr} {pos p2 : Pos}
theorem so_none : SO X none oNone := ⟨fun pins s σ H Q I ⟨F, fm, i, fm', R, em, q⟩ => po_none.run pins s σ H Q I (by cases em; exact q F H (Aft.refl R))⟩
theorem so_some {m : ME} (h : SE X e m) : SO X (some e) (oSome m) := ⟨fun pins s σ H Q I ⟨F, fm, i, fm', R, em, q⟩ => (po_some h).run pins s σ H Q I (by
  unfold oSome at em
  split at em
  · rename_i j fm1 e1
    cases em
    refine ⟨F, fm, _, _, R, e1, fun x F1 H1 A1 V1 N1 => ?_⟩
    have := dpint V1
    subst this
    exact ⟨j, rfl, q F1 H1 A1⟩
  · cases em)⟩
theorem dpAll_cut {F : Hp} {vs : List V} {ds : List PyData} {lo hi : Option Int} (r : DqAll K F vs ds) : DqAll K F (cutV vs lo hi) (cutD ds lo hi) := by
  unfold cutV cutD
  rw [dpAll_len r]
  exact dpAll_take _ (dpAll_drop _ r)
theorem cutD_whole {ds : List PyData} {lo hi : Option Int} (h : HT.sIx ds.length 0 lo = 0 ∧ HT.sIx ds.length ds.length hi = ds.length) : cutD ds lo hi = ds := by
  unfold cutD
  rw [h.1, h.2, List.drop_zero, Nat.sub_zero, List.take_length]
theorem se_slice {mo : ME} {ml mh : MO} (he : SE X e mo) (hl : SO X lo ml) (hh : SO X hi mh) : SE X (.Subscript e (.Slice lo hi none p2) pos) (mSl mo ml mh) :=
  pe_le (pe_slice (SlR.or sl_list sl_tupP) he hl hh) fun σ H Q ⟨F, fm, v, fm', R, em, q⟩ => by
    unfold mSl at em
    split at em
    · rename_i w fm1 e1
      split at em
      · rename_i l fm2 e2
        split at em
        · rename_i u fm3 e3
          refine ⟨F, fm, w, fm1, R, e1, fun x F1 H1 A1 V1 N1 => ⟨F1, fm1, l, fm2, A1.rel, e2, fun F2 H2 A2 => ⟨F2, fm2, u, fm3, A2.rel, e3, fun F3 H3 A3 => ?_⟩⟩⟩
          have A := (A1.trans A2).trans A3
          have V3 := (A2.trans A3).val V1
          split at em
          · rename_i ds h1
            cases em
            obtain ⟨a, vs, rfl, s1, r1⟩ := peek_list A3.rel V3 h1
            exact .inl ⟨a, vs, rfl, s1, fun p hp => q _ F3 _ (A.trans (Aft.lay A3.rel hp)) (Aft.newL A3.rel hp (dpAll_cut r1)) (A.new (VNew.ref hp))⟩
          · rename_i ds h1
            cases em
            have pf := peek_flat A3.rel V3 h1 (fun _ e => nomatch e)
            obtain ⟨a, vs, rfl, s1, r1⟩ := peek_tup A3.rel V3 h1
            refine .inr ⟨a, vs, rfl, s1.1, fun hw => ?_, fun _ p o hp hd => ?_⟩
            · rw [dpAll_len r1] at hw
              rw [cutD_whole hw] at q
              exact q _ F3 H3 A pf VNew.dat
            · exact q _ _ _ (A.trans (Aft.layF A3.rel hp)) (Aft.newT A3.rel hp hd (dpAll_cut r1)) VNew.dat
          · cases em
        · cases em
      · cases em
    · cases em
end

def gIx (i : Nat) (mi : ME) : MG := fun d fm => match fm[i]? with
  | some (some (.own _)) => match mi fm with
    | some (.dat (.int k), fm1) => match fm1[i]? with
      | some (some (.own (.lst ds))) => match ixN ds.length k with
        | some j => some (fm1.set i (some (.own (.lst (ds.set j d)))))
        | none => none
      | _ => none
    | _ => none
  | _ => none
section
variable {X : Cx} {e : Expr} {pos p1 : Pos} {ro : List Nat}
theorem sg_ix {i : Nat} {x : Str} {mi : ME} (hN : X.N[i]? = some x) (hv : Vis X.env.scope x) (hd : (x == ("__debug__" : Str)) = false) (hcd : (x == ("__classdict__" : Str)) = false) (he : SE X e mi) (hs : isSlice e = false) : SG X (Dq X.K) ro (.Subscript (.Name x p1) e pos) (gIx i mi) :=
  pg_le (pg_sub (pe_var hN hv hd hcd) he set_list (fun v => by cases e <;> first | rfl | cases hs)) fun v σ H Q ⟨F, fm, d, fm', R, D, em, q⟩ => by
    unfold gIx at em
    split at em
    · rename_i c hi
      obtain ⟨p, hy, hf, hc⟩ := R.own i c hi
      split at em
      · rename_i k fm1 e1
        split at em
        · rename_i ds h1
          split at em
          · rename_i j hj
            cases em
            refine ⟨.ref p, hy, F, fm, _, fm1, R, e1, fun z F1 H1 A1 V1 N1 => ?_⟩
            have := dpint V1
            subst this
            obtain ⟨p', vs, e, hs', hp, r⟩ := A1.rel.ownL h1 hy
            cases e
            refine ⟨p, vs, k, j, rfl, rfl, hp, by rw [dpAll_len r]; exact hj, ?_⟩
            exact q σ F1 _ (A1.trans (Aft.write A1.rel h1 hs' (dpAll_set (dp_mono A1.ext.same D) j r))).s
          · cases em
        · cases em
      · cases em
    · cases em
end
end Rf


namespace Rf
open PySem PySem.Spec PyProof.Rows L2

def seqD : PyData → Option (List PyData)
  | .list ds => some ds
  | .tuple ds => some ds
  | _ => none
def fInX : F2 := fun va vb fm => match peek va fm, peek vb fm with
  | some d, some e => match seqD e with
    | some ds => if SeqAt.shaped d && SeqAt.shaped e then some (.dat (.bool (ds.any fun z => PyData.eqv z d)), fm) else none
    | none => none
  | _, _ => none
def fNotInX : F2 := fun va vb fm => match peek va fm, peek vb fm with
  | some d, some e => match seqD e with
    | some ds => if SeqAt.shaped d && SeqAt.shaped e then some (.dat (.bool (!ds.any fun z => PyData.eqv z d)), fm) else none
    | none => none
  | _, _ => none
def rInX (K : PySem.W.Frag) (n : Bool → Bool) : R2 := fun x y H Q => ∃ d e ds, Dp K H x d ∧ Dp K H y e ∧ seqD e = some ds ∧ SeqAt.shaped d = true ∧ SeqAt.shaped e = true ∧ Q (.bl (n (ds.any fun z => PyData.eqv z d))) H
section
variable {X : Cx} {K : PySem.W.Frag}
theorem shaped_items {e : PyData} {ds : List PyData} (h : seqD e = some ds) (he : SeqAt.shaped e = true) : PyData.canLayAll0 ds = true := by
  have h1 := SeqAt.canLay_of_shaped he
  cases e with
  | list _ => cases h; exact h1
  | tuple _ => cases h; exact h1
  | _ => cases h
theorem op_inX (hu : X.A.units + 65 < cLine) : OpR X (compareOp .In) (rInX X.K id) := by
  intro pins s σ H x y v u Q I rx ry h
  obtain ⟨d, e, ds, hd, he, hs, sd, se, q⟩ := h
  obtain ⟨as, r1⟩ := Dp.reads I d x v hd rx
  obtain ⟨bs, r2⟩ := Dp.reads I e y u he ry
  have hl := shaped_items hs se
  cases e with
  | list _ => cases hs; exact SeqAt.in_list_reads r2 r1 hl (SeqAt.canLay_of_shaped sd) (room_in_shaped sd hu) ⟨.bl _, H, I, rfl, q⟩
  | tuple _ => cases hs; exact SeqAt.in_tuple_reads r2 r1 hl (SeqAt.canLay_of_shaped sd) (room_in_shaped sd hu) ⟨.bl _, H, I, rfl, q⟩
  | _ => cases hs
theorem op_notInX (hu : X.A.units + 65 < cLine) : OpR X (compareOp .NotIn) (rInX X.K not) := by
  intro pins s σ H x y v u Q I rx ry h
  obtain ⟨d, e, ds, hd, he, hs, sd, se, q⟩ := h
  obtain ⟨as, r1⟩ := Dp.reads I d x v hd rx
  obtain ⟨bs, r2⟩ := Dp.reads I e y u he ry
  have hl := shaped_items hs se
  cases e with
  | list _ => cases hs; exact SeqAt.notIn_list_reads r2 r1 hl (SeqAt.canLay_of_shaped sd) (room_in_shaped sd hu) ⟨.bl _, H, I, rfl, q⟩
  | tuple _ => cases hs; exact SeqAt.notIn_tuple_reads r2 r1 hl (SeqAt.canLay_of_shaped sd) (room_in_shaped sd hu) ⟨.bl _, H, I, rfl, q⟩
  | _ => cases hs
theorem p_inX : Prim2 K (rInX K id) fInX := by
  intro F H σ fm fm' va vb x y v R Va Vb h Q q
  unfold fInX at h
  split at h
  · rename_i d e h1 h2
    split at h
    · rename_i ds hs
      split at h
      · rename_i hc
        cases h
        simp only [Bool.and_eq_true] at hc
        exact ⟨d, e, ds, (peek_dp R Va h1).dp, (peek_dp R Vb h2).dp, hs, hc.1, hc.2, q _ F H (Aft.refl R) (.bl _) VNew.dat⟩
      · cases h
    · cases h
  · cases h
theorem p_notInX : Prim2 K (rInX K not) fNotInX := by
  intro F H σ fm fm' va vb x y v R Va Vb h Q q
  unfold fNotInX at h
  split at h
  · rename_i d e h1 h2
    split at h
    · rename_i ds hs
      split at h
      · rename_i hc
        cases h
        simp only [Bool.and_eq_true] at hc
        exact ⟨d, e, ds, (peek_dp R Va h1).dp, (peek_dp R Vb h2).dp, hs, hc.1, hc.2, q _ F H (Aft.refl R) (.bl _) VNew.dat⟩
      · cases h
    · cases h
  · cases h
end

def isTy (d : PyData) (T : String) : Option Bool := match d with
  | .none => kitB "NoneType" T
  | .bool _ => kitB "bool" T
  | .int _ => kitB "int" T
  | .str _ => kitB "str" T
  | .list _ => kitB "list" T
  | .tuple _ => kitB "tuple" T
  | _ => none
def isAny (d : PyData) : List String → Option Bool
  | [] => some false
  | T :: Ts => match isTy d T with
    | some true => some true
    | some false => isAny d Ts
    | none => none
def mIsi (Ts : List String) (m : ME) : ME := fun fm => match m fm with
  | some (v, fm1) => match peek v fm1 with
    | some d => match isAny d Ts with
      | some b => some (.dat (.bool b), fm1)
      | none => none
    | none => none
  | none => none
section
variable {X : Cx} {K : PySem.W.Frag}
def tyName : PyData → String
  | .none => "NoneType"
  | .bool _ => "bool"
  | .int _ => "int"
  | .str _ => "str"
  | .list _ => "list"
  | _ => "tuple"
theorem dq_ty {H : Hp} {x : V} {d : PyData} (h : Dp K H x d) : TyX K H x (.type (tyName d)) := by
  cases h with
  | non => exact .base .non
  | bl b => exact .base (.bl b)
  | int i => exact .base (.int i)
  | str z => exact .base (.str z)
  | lst s _ =>
    rcases s with (s | ⟨o, s⟩) | ⟨o, its, n, hk, hc, _⟩
    · exact .base (.lst s)
    · exact .base (.frz s)
    · exact .kList hk hc
  | tup s _ =>
    rcases s with (s | ⟨o, s⟩) | ⟨o, its, n, hk, hc, _⟩
    · exact .base (.tup s)
    · exact .fTuple s
    · exact .kTuple hk hc
theorem isTy_kit {H : Hp} {x : V} {d : PyData} {T : String} {b : Bool} (hd : Dp K H x d) (h : isTy d T = some b) : PySem.W.kitOne K (.type (tyName d)) (.type T) = some b := by
  cases hd <;> exact kit_ty h
theorem isAny_kit {H : Hp} {x : V} {d : PyData} (hd : Dp K H x d) : ∀ {Ts : List String} {b : Bool}, isAny d Ts = some b → PySem.W.kitAny K (.type (tyName d)) (Ts.map Value.type) = some b
  | [], _, h => by cases h; exact kitAny_nil
  | T :: Ts, b, h => by
    unfold isAny at h
    split at h
    · rename_i e
      cases h
      exact kitAny_cons (isTy_kit hd e) (fun z => nomatch z) fun _ => rfl
    · rename_i e
      exact kitAny_cons (isTy_kit hd e) (fun _ => isAny_kit hd h) fun z => nomatch z
    · cases h
variable {e : Expr} {p pos p1 p2 : Pos} {k : Nat}
def IsTyN (X : Cx) (x : Str) (T : String) : Prop := Gl X x ∧ X.mg x = none ∧ bootBuiltins x = some (.type T) ∧ x ≠ "__name__" ∧ (x == ("__debug__" : Str)) = false
theorem IsTyN.pe {x : Str} {T : String} (h : IsTyN X x T) : PE X (.Name x p) (tC (.ty T)) := pe_bltn h.1 h.2.1 h.2.2.1 rfl h.2.2.2.1 h.2.2.2.2
theorem se_isi1 {m : ME} {x : Str} {T : String} (hg : Gl X "isinstance") (hm : X.mg "isinstance" = none) (he : SE X e m) (hT : IsTyN X x T) (hs : isStar e = false) :
    SE X (.Call (.Name "isinstance" p) [e, .Name x p1] [] pos) (mIsi [T] m) := by
  have s1 : starEach [e, .Name x p1] X.env = (false, eval e X.env) :: starEach [.Name x p1] X.env := star_cons hs
  refine pe_le (pe_callB call_isi hg hm boot_isinstance (pa_cons he (pa_cons hT.pe pa_nil) s1) (by decide) (by decide) s1) fun σ H Q h => ?_
  obtain ⟨F, fm, v, fm', R, em, q⟩ := h
  unfold mIsi at em
  split at em
  · rename_i w fm1 e1
    split at em
    · rename_i d hd
      split at em
      · rename_i b hb
        cases em
        refine ⟨F, fm, w, _, R, e1, fun x F1 H1 A1 V1 N1 => ?_⟩
        have D := (peek_dp A1.rel V1 hd).dp
        have hb' : isTy d T = some b := by
          unfold isAny at hb
          split at hb
          · rename_i e; rw [e]; exact hb
          · rename_i e; cases hb; exact e
          · cases hb
        exact ⟨x, .ty T, _, _, b, rfl, .ty T, dq_ty D, isTy_kit D hb', q _ F1 H1 A1 (.bl b) VNew.dat⟩
      · cases em
    · cases em
  · cases em
end
end Rf

namespace Rf
open PySem PySem.Spec PyProof.Rows L2

def fEqX : F2 := fun va vb fm => match peek va fm, peek vb fm with
  | some (.str a), some (.str b) => some (.dat (.bool (decide (a = b))), fm)
  | some d, some e => if SeqAt.shaped d && SeqAt.shaped e then some (.dat (.bool (PyData.eqv d e)), fm) else none
  | _, _ => none
def fNeX : F2 := fun va vb fm => match peek va fm, peek vb fm with
  | some (.str a), some (.str b) => some (.dat (.bool (!decide (a = b))), fm)
  | some d, some e => if SeqAt.shaped d && SeqAt.shaped e then some (.dat (.bool (!PyData.eqv d e)), fm) else none
  | _, _ => none
section
variable {K : PySem.W.Frag}
theorem p_eqX : Prim2 K (fun x y H Q => rEq x y H Q ∨ rEqD K x y H Q) fEqX := by
  intro F H σ fm fm' va vb x y v R Va Vb h Q q
  unfold fEqX at h
  split at h
  · rename_i a b h1 h2
    cases h
    have e1 := peek_str R Va h1
    have e2 := peek_str R Vb h2
    subst e1 e2
    refine .inl ⟨rfl, ?_⟩
    have e : decide (V.str a = V.str b) = decide (a = b) := by simp
    rw [e]
    exact q _ F H (Aft.refl R) (.bl _) VNew.dat
  · rename_i d e _ h1 h2
    split at h
    · rename_i hc
      cases h
      simp only [Bool.and_eq_true] at hc
      exact .inr ⟨d, e, (peek_dp R Va h1).dp, (peek_dp R Vb h2).dp, hc.1, hc.2, q _ F H (Aft.refl R) (.bl _) VNew.dat⟩
    · cases h
  · cases h
theorem p_neX : Prim2 K (fun x y H Q => rNe x y H Q ∨ rNeD K x y H Q) fNeX := by
  intro F H σ fm fm' va vb x y v R Va Vb h Q q
  unfold fNeX at h
  split at h
  · rename_i a b h1 h2
    cases h
    have e1 := peek_str R Va h1
    have e2 := peek_str R Vb h2
    subst e1 e2
    refine .inl ⟨rfl, ?_⟩
    have e : decide (V.str a = V.str b) = decide (a = b) := by simp
    first
      | (rw [e]; exact q _ F H (Aft.refl R) (.bl _) VNew.dat)
      | (have e' : (decide (V.str a ≠ V.str b)) = !decide (a = b) := by simp
         rw [e']; exact q _ F H (Aft.refl R) (.bl _) VNew.dat)
  · rename_i d e _ h1 h2
    split at h
    · rename_i hc
      cases h
      simp only [Bool.and_eq_true] at hc
      exact .inr ⟨d, e, (peek_dp R Va h1).dp, (peek_dp R Vb h2).dp, hc.1, hc.2, q _ F H (Aft.refl R) (.bl _) VNew.dat⟩
    · cases h
  · cases h
end
inductive TyNs (X : Cx) : List Expr → List String → Prop
  | nil : TyNs X [] []
  | cons {x : Str} {p : Pos} {T : String} {es : List Expr} {Ts : List String} (h : IsTyN X x T) (r : TyNs X es Ts) : TyNs X (.Name x p :: es) (T :: Ts)
section
variable {X : Cx} {K : PySem.W.Frag} {e : Expr} {es : List Expr} {p pos p1 p2 : Pos} {k : Nat}
theorem TyNs.pa : ∀ {es : List Expr} {Ts : List String}, TyNs X es Ts → PA X es (fun _ H Q => Q (Ts.map V.ty) H)
  | _, _, .nil => pa_le pa_nil fun σ H Q h => h
  | _, _, .cons (p := p) h r => pa_le (pa_cons (h.pe (p := p)) r.pa) fun σ H Q h => h
theorem cls_all : ∀ Ts : List String, Paired ClsV (Ts.map V.ty) (Ts.map Value.type)
  | [] => .nil
  | T :: Ts => .cons (.ty T) (cls_all Ts)
theorem se_isiT {m : ME} {Ts : List String} (hg : Gl X "isinstance") (hm : X.mg "isinstance" = none) (he : SE X e m) (hT : TyNs X es Ts) (hl : Ts.length ≤ sizeLine) (hs : isStar e = false) :
    SE X (.Call (.Name "isinstance" p) [e, .Tuple es k p1] [] pos) (mIsi Ts m) := by
  have s1 : starEach [e, .Tuple es k p1] X.env = (false, eval e X.env) :: starEach [.Tuple es k p1] X.env := star_cons hs
  refine pe_le (pe_callB call_isiT hg hm boot_isinstance (pa_cons he (pa_cons (pe_tup hT.pa) pa_nil) s1) (by decide) (by decide) s1) fun σ H Q h => ?_
  obtain ⟨F, fm, v, fm', R, em, q⟩ := h
  unfold mIsi at em
  split at em
  · rename_i w fm1 e1
    split at em
    · rename_i d hd
      split at em
      · rename_i b hb
        cases em
        refine ⟨F, fm, w, _, R, e1, fun x F1 H1 A1 V1 N1 => ⟨by rw [List.length_map]; exact hl, fun t ht => ?_⟩⟩
        have A2 := A1.trans (Aft.lay (o := .tup (Ts.map V.ty)) A1.rel ht)
        have D := (peek_dp A2.rel ((Aft.lay A1.rel ht).val V1) hd).dp
        exact ⟨x, t, _, _, _, b, rfl, upd_same, cls_all Ts, dq_ty D, isAny_kit D hb, q _ F1 _ A2 (.bl b) VNew.dat⟩
      · cases em
    · cases em
  · cases em
end
def boolsD : List PyData → Option (List Bool)
  | [] => some []
  | .bool b :: ds => (boolsD ds).map (b :: ·)
  | _ => none
def intsD : List PyData → Option (List Int)
  | [] => some []
  | .int b :: ds => (intsD ds).map (b :: ·)
  | _ => none
theorem boolsD_eq : ∀ {ds : List PyData} {bs : List Bool}, boolsD ds = some bs → ds = bs.map .bool
  | [], _, h => by cases h; rfl
  | d :: ds, bs, h => by
    unfold boolsD at h
    split at h
    · rename_i e; cases e
    · rename_i b ds' e
      cases e
      cases h2 : boolsD ds with
      | none => rw [h2] at h; cases h
      | some cs => rw [h2] at h; cases h; rw [boolsD_eq h2]; rfl
    · cases h
theorem intsD_eq : ∀ {ds : List PyData} {bs : List Int}, intsD ds = some bs → ds = bs.map .int
  | [], _, h => by cases h; rfl
  | d :: ds, bs, h => by
    unfold intsD at h
    split at h
    · rename_i e; cases e
    · rename_i b ds' e
      cases e
      cases h2 : intsD ds with
      | none => rw [h2] at h; cases h
      | some cs => rw [h2] at h; cases h; rw [intsD_eq h2]; rfl
    · cases h
section
variable {K : PySem.W.Frag} {F : Hp}
theorem dq_bools : ∀ {bs : List Bool} {vs : List V}, DqAll K F vs (bs.map .bool) → vs = bs.map V.bl
  | [], _, h => by cases h; rfl
  | b :: bs, _, h => by
    cases h with
    | cons h r => cases h; rw [dq_bools r]; rfl
theorem dq_ints : ∀ {bs : List Int} {vs : List V}, DqAll K F vs (bs.map .int) → vs = bs.map V.int
  | [], _, h => by cases h; rfl
  | b :: bs, _, h => by
    cases h with
    | cons h r => cases h; rw [dq_ints r]; rfl
theorem ints_dq : ∀ (bs : List Int), DqAll K F (bs.map V.int) (bs.map .int)
  | [] => .nil
  | b :: bs => .cons (.int b) (ints_dq bs)
end
def fAll : FA := fun vs fm => match vs with
  | [v] => match peek v fm with
    | some (.list ds) => match boolsD ds with
      | some bs => some (.dat (.bool (bs.all id)), fm)
      | none => none
    | _ => none
  | _ => none
def fAny : FA := fun vs fm => match vs with
  | [v] => match peek v fm with
    | some (.list ds) => match boolsD ds with
      | some bs => some (.dat (.bool (bs.any id)), fm)
      | none => none
    | _ => none
  | _ => none
def fSum : FA := fun vs fm => match vs with
  | [v] => match peek v fm with
    | some (.list ds) => match intsD ds with
      | some bs => some (.dat (.int bs.sum), fm)
      | none => none
    | _ => none
  | _ => none
def sortI (ns : List Int) : List Int := ns.mergeSort fun a b => decide (a ≤ b)
def fSorted : FA := fun vs fm => match vs with
  | [v] => match peek v fm with
    | some (.list ds) => match intsD ds with
      | some bs => some (.fre (.lst ((sortI bs).map .int)), fm)
      | none => none
    | some (.tuple ds) => match intsD ds with
      | some bs => some (.fre (.lst ((sortI bs).map .int)), fm)
      | none => none
    | _ => none
  | _ => none
section
variable {prog : Program} {w : World} {A : Around} {E : Value → Shared → Prop} {s : Shared}
theorem gather_tup {t : Addr} {us : List Value} {Q : List Value → Shared → Prop} (ht : s.heap.IsTuple t us.toArray) (hz : us.length ≤ sizeLine)
    (hq : Q us { s with heap := (s.heap.push (seqObj "list" #[] 0)).update s.heap.objs.size (Obj.mapSeq (· ++ us.toArray)) }) : wpAny (model prog w) A (collect (.ref t)) Q E s := by
  obtain ⟨ot, h1, h2, nt, h3⟩ := id ht
  unfold collect
  refine wpAny_bind (wpAny_runValue (codeAny_builtin entry_proto_collect' ?_))
  show wpAny _ _ (do again (.builtin "list.__iadd__" ⟨[← newList [], .ref t], []⟩)) _ _ s
  refine wpAny_bind (wpAny_newList (wpAny_pure ⟨Code.quiet_builtin _ (by decide +kernel), (codeAny_builtin entry_list_iadd' ?_)⟩))
  show wpAny _ _ (Builtin.List.listExtendWith (.ref s.heap.objs.size) (.ref t) (.ref s.heap.objs.size)) _ _ { s with heap := s.heap.push (seqObj "list" #[] 0) }
  unfold Builtin.List.listExtendWith
  have h4 : (s.heap.push (seqObj "list" #[] 0)).get? t = some ot := Heap.get?_push_of_some _ h1
  refine wpAny_bind (wpAny_typeOf (T := "tuple") ⟨ot, h4, h2⟩ ?_)
  have h5 : (Value.type "tuple" == Value.type "tuple") = true := by rfl
  rw [if_pos (by rw [h5]; simp)]
  refine wpAny_bind (listItems_at h4 h3 ?_)
  refine wpAny_bind ((listItems_at (xs := #[]) (n := 0) (Heap.get?_push_size _ rfl) rfl ?_))
  rw [if_neg (by simp)]
  refine wpAny_bind (listUpdate_at (xs := #[]) (n := 0) (Heap.get?_push_size _ rfl) rfl ?_ (Nat.zero_le _) (by show (#[] ++ us.toArray).size ≤ sizeLine + 1; simp only [Array.size_append, List.size_toArray, List.length_nil]; omega))
  refine wpAny_pure ?_
  show wpAny (model prog w) A (do
      let o9 ← load s.heap.objs.size
      match o9.data with
      | .seq z9 _ => pure z9.toList
      | _ => unsupported "internal:collect") Q E { s with heap := (s.heap.push (seqObj "list" #[] 0)).update s.heap.objs.size (Obj.mapSeq (· ++ us.toArray)) }
  refine wpAny_bind ((wpAny_load (get?_update_seq (Heap.get?_push_size _ rfl) _) ?_))
  show wpAny _ _ (pure ((#[] : Array Value) ++ us.toArray).toList) Q E _
  rw [show ((#[] : Array Value) ++ us.toArray).toList = us by simp]
  exact wpAny_pure hq
theorem sort_tup {t : Addr} {us : List Value} {ltv : Value → Value → Bool} {Q : Value → Shared → Prop} (O : SrtO.Swo ltv) (ht : s.heap.IsTuple t us.toArray) (hz : us.length ≤ sizeLine)
    (hS : 2 ≤ us.length → ∀ (g : Heap) (a : Addr), g.get? a = some (seqObj "list" us.toArray 0) → (∀ b o, s.heap.get? b = some o → b ≠ a ∧ g.get? b = some o) → SrtO.SortableO prog w A.in1.in1 { s with heap := g } a us ltv)
    (hq : ∀ out : List Value, SrtO.Srtd ltv out → SrtO.Stb ltv out us → Q (.ref (s.heap.objs.size + 1)) { s with heap := sortedAll s.heap us out.toArray }) : wpAny (model prog w) A (call (.builtin "sorted") [.ref t]) Q E s := by
  refine Calls.call_function_entry kind_sorted plain_sorted entry_sorted ((args_sorted1 _)) ?_
  unfold Builtin.«sorted»
  refine wpAny_bind (m := checkCount "sorted" 1 1 _) ((wpAny_pure ?_))
  refine wpAny_bind (gather_tup ht hz ?_)
  refine wpAny_bind (wpAny_newList ?_ hz)
  have e1 : ((s.heap.push (seqObj "list" #[] 0)).update s.heap.objs.size (Obj.mapSeq (· ++ us.toArray))).objs.size = s.heap.objs.size + 1 := by rw [Heap.size_update, size_push']
  have e2 : (((s.heap.push (seqObj "list" #[] 0)).update s.heap.objs.size (Obj.mapSeq (· ++ us.toArray))).push (seqObj "list" us.toArray 0)).get? (s.heap.objs.size + 1) = some (seqObj "list" us.toArray 0) := by
    rw [← e1]
    exact Heap.get?_push_size _ rfl
  have e3 : ∀ b o, s.heap.get? b = some o → b ≠ s.heap.objs.size + 1 ∧ (((s.heap.push (seqObj "list" #[] 0)).update s.heap.objs.size (Obj.mapSeq (· ++ us.toArray))).push (seqObj "list" us.toArray 0)).get? b = some o := fun b o q => by
    have lt : b < s.heap.objs.size := Heap.lt_size q
    refine ⟨Nat.ne_of_lt (Nat.lt_succ_of_lt lt), Heap.get?_push_of_some _ ?_⟩
    rw [Heap.get?_update_ne _ _ _ _ (Nat.ne_of_lt lt)]
    exact Heap.get?_push_of_some _ q
  show wpAny _ _ _ _ _ { s with heap := ((s.heap.push (seqObj "list" #[] 0)).update s.heap.objs.size (Obj.mapSeq (· ++ us.toArray))).push (seqObj "list" us.toArray 0) }
  rw [e1]
  refine wpAny_bind (wpAny_holding (wpAny_call_entry PyProof.Rows.slot_list_sort ⟨_, e2, rfl⟩ PyProof.Rows.entry_list_sort (SrtO.list_sort_ord O e2 hz (fun h2 => hS h2 _ _ e2 e3) fun out k1 k2 => ⟨_, rfl, ?_⟩) (args_list_sort _)))
  exact wpAny_pure ⟨_, rfl, hq out k1 k2⟩
end
def rSortedX (K : PySem.W.Frag) : List V → Hp → VK → Prop := fun vs H Q => ∃ (a : Addr) (ns : List Int), vs = [V.ref a] ∧ (SqL K H a (ns.map V.int) ∨ SqT K H a (ns.map V.int)) ∧
  ∀ (ms : List Int) (p : Addr), ms.Perm ns → ms.Pairwise (· ≤ ·) → H p = none → Q (.ref p) (upd H p (.lst (ms.map V.int)))
theorem cr_sortedX {X : Cx} : CallR X (.builtin "sorted") (rSortedX X.K) := by
  intro pins s σ H vs us Q I r h
  obtain ⟨a, ns, e, hs, q⟩ := h
  rcases hs with hs | hs
  · exact cr_sortedI pins s σ H vs us Q I r ⟨a, ns, e, hs, q⟩
  · subst e
    obtain ⟨its, rv, ht, hz⟩ := I.tuple hs
    rw [Vals.ref1 r]
    have hi := rv.ints
    refine sort_tup SrtO.swo_int ht (by rw [← rv.length]; exact hz) (fun h2 g b _ _ => SrtO.ints_sortable hi h2) fun out h1 h2 => ?_
    obtain ⟨k1, k2, k3⟩ := SrtO.ints_out hi h1 h2
    obtain ⟨ep, hep⟩ := PyProof.Rows.sortedAll_at s.heap its out.toArray
    have hl2 : ((out.map SrtO.iv).map V.int).length ≤ sizeLine := by
      rw [List.length_map, k2.length_eq]
      rw [List.length_map] at hz
      exact hz
    exact ⟨.ref _, upd H (s.heap.objs.size + 1) (.lst ((out.map SrtO.iv).map V.int)), I.laid (t' := s.toks) (fun _ _ => PyProof.Rows.sortedAll_old) (Nat.le_succ _) ⟨hl2, out, ep, vals_of_ints k1, hep⟩, rfl, q _ _ k2 k3 (I.hok.fresh (Nat.le_succ _))⟩
theorem sortI_perm (ns : List Int) : (sortI ns).Perm ns := List.mergeSort_perm _ _
theorem sortI_pair (ns : List Int) : (sortI ns).Pairwise (· ≤ ·) := by
  have h := List.pairwise_mergeSort (le := fun a b : Int => decide (a ≤ b)) (fun a b c h1 h2 => by simp at *; omega) (fun a b => by simp; omega) ns
  exact h.imp fun h => by simpa using h
theorem sortI_uniq {ns ms : List Int} (h : ms.Perm ns) (k : ms.Pairwise (· ≤ ·)) : ms = sortI ns :=
  List.Perm.eq_of_pairwise (fun a b _ _ h1 h2 => Int.le_antisymm h1 h2) k (sortI_pair ns) (h.trans (sortI_perm ns).symm)
section
variable {X : Cx} {K : PySem.W.Frag}
theorem p_all : PrimA K (rAll K) fAll := by
  intro F H σ fm fm' vs xs v R Vs h Q q
  unfold fAll at h
  split at h
  · obtain ⟨y, rfl, V⟩ := vsrel1 Vs
    split at h
    · rename_i ds h1
      split at h
      · rename_i bs hb
        cases h
        obtain ⟨a, ys, rfl, s1, r1⟩ := peek_list R V h1
        have e := boolsD_eq hb
        subst e
        have e := dq_bools r1
        subst e
        exact ⟨a, bs, rfl, s1, q _ F H (Aft.refl R) (.bl _) VNew.dat⟩
      · cases h
    · cases h
  · cases h
theorem p_any : PrimA K (rAny K) fAny := by
  intro F H σ fm fm' vs xs v R Vs h Q q
  unfold fAny at h
  split at h
  · obtain ⟨y, rfl, V⟩ := vsrel1 Vs
    split at h
    · rename_i ds h1
      split at h
      · rename_i bs hb
        cases h
        obtain ⟨a, ys, rfl, s1, r1⟩ := peek_list R V h1
        have e := boolsD_eq hb
        subst e
        have e := dq_bools r1
        subst e
        exact ⟨a, bs, rfl, s1, q _ F H (Aft.refl R) (.bl _) VNew.dat⟩
      · cases h
    · cases h
  · cases h
theorem p_sum : PrimA K (rSum K) fSum := by
  intro F H σ fm fm' vs xs v R Vs h Q q
  unfold fSum at h
  split at h
  · obtain ⟨y, rfl, V⟩ := vsrel1 Vs
    split at h
    · rename_i ds h1
      split at h
      · rename_i bs hb
        cases h
        obtain ⟨a, ys, rfl, s1, r1⟩ := peek_list R V h1
        have e := intsD_eq hb
        subst e
        have e := dq_ints r1
        subst e
        exact ⟨a, bs, rfl, s1, q _ F H (Aft.refl R) (.int _) VNew.dat⟩
      · cases h
    · cases h
  · cases h
theorem p_sorted : PrimA K (rSortedX K) fSorted := by
  intro F H σ fm fm' vs xs v R Vs h Q q
  unfold fSorted at h
  split at h
  · obtain ⟨y, rfl, V⟩ := vsrel1 Vs
    split at h
    · rename_i ds h1
      split at h
      · rename_i bs hb
        cases h
        obtain ⟨a, ys, rfl, s1, r1⟩ := peek_list R V h1
        have e := intsD_eq hb
        subst e
        have e := dq_ints r1
        subst e
        refine ⟨a, bs, rfl, .inl s1, fun ms p hp hs hn => ?_⟩
        have e := sortI_uniq hp hs
        subst e
        exact q _ F _ (Aft.lay R hn) (Aft.newL R hn (ints_dq _)) (VNew.ref hn)
      · cases h
    · rename_i ds h1
      split at h
      · rename_i bs hb
        cases h
        obtain ⟨a, ys, rfl, s1, r1⟩ := peek_tup R V h1
        have e := intsD_eq hb
        subst e
        have e := dq_ints r1
        subst e
        refine ⟨a, bs, rfl, .inr s1.1, fun ms p hp hs hn => ?_⟩
        have e := sortI_uniq hp hs
        subst e
        exact q _ F _ (Aft.lay R hn) (Aft.newL R hn (ints_dq _)) (VNew.ref hn)
      · cases h
    · cases h
  · cases h
end
end Rf

namespace Rf
open PySem PySem.Spec PyProof.Rows L2

def fBest (g : Int → Int → Int) : FA := fun vs fm => match vs with
  | [v] => match peek v fm with
    | some d => match seqD d with
      | some ds => match intsD ds with
        | some (n :: ns) => some (.dat (.int (ns.foldl g n)), fm)
        | _ => none
      | none => none
    | none => none
  | _ => none
def rBest (K : PySem.W.Frag) (g : Int → Int → Int) : List V → Hp → VK → Prop := fun vs H Q => ∃ x d n ns, vs = [x] ∧ Dp K H x d ∧ seqD d = some ((n :: ns).map .int) ∧ Q (.int (ns.foldl g n)) H
section
variable {X : Cx} {K : PySem.W.Frag}
theorem p_best {g : Int → Int → Int} : PrimA K (rBest K g) (fBest g) := by
  intro F H σ fm fm' vs xs v R Vs h Q q
  unfold fBest at h
  split at h
  · obtain ⟨y, rfl, V⟩ := vsrel1 Vs
    split at h
    · rename_i d h1
      split at h
      · rename_i ds hs
        split at h
        · rename_i n ns hb
          cases h
          exact ⟨y, d, n, ns, rfl, (peek_dp R V h1).dp, by rw [hs, intsD_eq hb], q _ F H (Aft.refl R) (.int _) VNew.dat⟩
        · cases h
      · cases h
    · cases h
  · cases h
theorem alike_ints (ns : List Int) : PySem.W.AlikeAll (ns.map .int) := by
  refine ⟨fun x hx y hy => ?_, fun x hx => ?_⟩
  · obtain ⟨i, _, rfl⟩ := List.mem_map.mp hx
    obtain ⟨j, _, rfl⟩ := List.mem_map.mp hy
    rfl
  · obtain ⟨i, _, rfl⟩ := List.mem_map.mp hx
    exact fun e => nomatch e
theorem depth_ints : ∀ ns : List Int, PyData.depthAll (ns.map .int) = 0
  | [] => by simp [PyData.depthAll]
  | n :: ns => by simp [PyData.depthAll, PyData.depth, depth_ints ns]
theorem reads_int {h : Heap} {v : Value} {i : Int} {as : List Addr} (r : Reads h v (.int i) as) : ∃ t, v = .int i t := by
  cases r; exact ⟨_, rfl⟩
theorem call_minX (hc : X.calm = true) (hu : X.A.units + 64 < cLine) : CallR X (.builtin "min") (rBest X.K min) := by
  intro pins s σ H vs us Q I r h
  obtain ⟨x, d, n, ns, rfl, hd, hs, q⟩ := h
  obtain ⟨u, rfl, rx⟩ := vals1 r
  obtain ⟨as, rd⟩ := Dp.reads I d x u hd rx
  have hdp := depth_ints (n :: ns)
  have fin : ∀ (v : Value) (h' : Heap) (tk : Nat) (bs : List Addr), Reads h' v (PySem.W.minD (.int n) (ns.map .int)) bs → (∀ b o, s.heap.get? b = some o → h'.get? b = some o) → EP X pins σ Q v { s with heap := h', toks := tk } := fun v h' tk bs rr hk => by
    rw [PySem.W.minD_ints] at rr
    obtain ⟨t, rfl⟩ := reads_int rr
    exact ⟨.int _, H, I.kept hk, ⟨t, rfl⟩, q⟩
  cases rd with
  | list h1 h2 h3 h4 =>
    cases hs
    exact PySem.W.min_list_data (I.ok.hd hc) ⟨_, h1, h2, _, h3⟩ h4 (alike_ints (n :: ns)) (by show _ + PyData.depthAll ((n :: ns).map .int) < _; rw [hdp]; omega) fun i v h' tk bs _ rr hk => fin v h' tk bs rr hk
  | tuple h1 h2 h3 h4 =>
    cases hs
    exact PySem.W.min_tuple_data (I.ok.hd hc) ⟨_, h1, h2, _, h3⟩ h4 (alike_ints (n :: ns)) (by show _ + PyData.depthAll ((n :: ns).map .int) < _; rw [hdp]; omega) fun i v h' tk bs _ rr hk => fin v h' tk bs rr hk
  | _ => cases hs
theorem call_maxX (hc : X.calm = true) (hu : X.A.units + 64 < cLine) : CallR X (.builtin "max") (rBest X.K max) := by
  intro pins s σ H vs us Q I r h
  obtain ⟨x, d, n, ns, rfl, hd, hs, q⟩ := h
  obtain ⟨u, rfl, rx⟩ := vals1 r
  obtain ⟨as, rd⟩ := Dp.reads I d x u hd rx
  have hdp := depth_ints (n :: ns)
  have fin : ∀ (v : Value) (h' : Heap) (tk : Nat) (bs : List Addr), Reads h' v (PySem.W.maxD (.int n) (ns.map .int)) bs → (∀ b o, s.heap.get? b = some o → h'.get? b = some o) → EP X pins σ Q v { s with heap := h', toks := tk } := fun v h' tk bs rr hk => by
    rw [PySem.W.maxD_ints] at rr
    obtain ⟨t, rfl⟩ := reads_int rr
    exact ⟨.int _, H, I.kept hk, ⟨t, rfl⟩, q⟩
  cases rd with
  | list h1 h2 h3 h4 =>
    cases hs
    exact PySem.W.max_list_data (I.ok.hd hc) ⟨_, h1, h2, _, h3⟩ h4 (alike_ints (n :: ns)) (by show _ + PyData.depthAll ((n :: ns).map .int) < _; rw [hdp]; omega) fun i v h' tk bs _ rr hk => fin v h' tk bs rr hk
  | tuple h1 h2 h3 h4 =>
    cases hs
    exact PySem.W.max_tuple_data (I.ok.hd hc) ⟨_, h1, h2, _, h3⟩ h4 (alike_ints (n :: ns)) (by show _ + PyData.depthAll ((n :: ns).map .int) < _; rw [hdp]; omega) fun i v h' tk bs _ rr hk => fin v h' tk bs rr hk
  | _ => cases hs
def rIdx (K : PySem.W.Frag) (T : Bool) : V → List V → Hp → VK → Prop := fun x xs H Q => ∃ (a : Addr) (ns : List Int) (k : Int), x = .ref a ∧ xs = [.int k] ∧ (if T = true then SqT K H a (ns.map V.int) else SqL K H a (ns.map V.int)) ∧ k ∈ ns ∧ Q (.int (ns.idxOf k : Nat)) H
def fIdx (T : Bool) : FM := fun o vs fm => match vs with
  | [w] => match peek o fm, peek w fm with
    | some d, some (.int k) => match d, T with
      | .tuple ds, true => (match intsD ds with
        | some ns => if k ∈ ns then some (.dat (.int (ns.idxOf k : Nat)), fm) else none
        | none => none)
      | .list ds, false => (match intsD ds with
        | some ns => if k ∈ ns then some (.dat (.int (ns.idxOf k : Nat)), fm) else none
        | none => none)
      | _, _ => none
    | _, _ => none
  | _ => none
theorem p_idx {T : Bool} : PrimM K (rIdx K T) (fIdx T) := by
  intro F H σ fm fm' o ws x xs v R V D h Q q
  unfold fIdx at h
  split at h
  · rename_i w
    obtain ⟨y, rfl, Vy⟩ := vsrel1 D
    split at h
    · rename_i d k hd hk
      have ey := peek_int R Vy hk
      subst ey
      split at h
      · rename_i ds
        split at h
        · rename_i ns hn
          split at h
          · rename_i hin
            cases h
            obtain ⟨a, ys, rfl, s1, r1⟩ := peek_tup R V hd
            have e := intsD_eq hn
            subst e
            have e := dq_ints r1
            subst e
            exact ⟨a, ns, k, rfl, rfl, s1.1, hin, q _ F H (Aft.refl R) (.int _) VNew.dat⟩
          · cases h
        · cases h
      · rename_i ds
        split at h
        · rename_i ns hn
          split at h
          · rename_i hin
            cases h
            obtain ⟨a, ys, rfl, s1, r1⟩ := peek_list R V hd
            have e := intsD_eq hn
            subst e
            have e := dq_ints r1
            subst e
            exact ⟨a, ns, k, rfl, rfl, s1, hin, q _ F H (Aft.refl R) (.int _) VNew.dat⟩
          · cases h
        · cases h
      · cases h
    · cases h
  · cases h
theorem itemsEq_ints {A : Around} {s : Shared} {its : List Value} {ns : List Int} {k : Int} {t : Tok} (hi : IntsAre its ns) : SeqAt.ItemsEq A s its ns (.int k t) k := by
  refine ⟨hi.length, ?_⟩
  induction hi with
  | nil => intro j h1 _; exact absurd h1 (Nat.not_lt_zero j)
  | cons n t' _ ih =>
    intro j h1 h2
    cases j with
    | zero =>
      have e := SeqAt.EqAt.int_int (A := A) (s := s) n t' k t
      have e2 : (n == k) = decide (n = k) := by
        by_cases z : n = k
        · simp [z]
        · simp [z]
      rw [e2] at e
      exact e
    | succ j => exact ih j (by simpa using h1) (by simpa using h2)
theorem mt_idxT : MtR X "tuple.index" (rIdx X.K true) := by
  intro pins s σ H x xs v us Q I rx rs h
  obtain ⟨a, ns, k, rfl, rfl, hs, hin, q⟩ := h
  cases rx
  obtain ⟨u, rfl, t, rfl⟩ := vals1 rs
  obtain ⟨its, r, pl, hz⟩ := I.tuple (show SqT X.K H a (ns.map V.int) from hs)
  exact SeqAt.call_tuple_index (α := Int) pl (itemsEq_ints r.ints) hin ⟨.int _, H, I.tok _, ⟨_, rfl⟩, q⟩
theorem mt_idxL : MtR X "list.index" (rIdx X.K false) := by
  intro pins s σ H x xs v us Q I rx rs h
  obtain ⟨a, ns, k, rfl, rfl, hs, hin, q⟩ := h
  cases rx
  obtain ⟨u, rfl, t, rfl⟩ := vals1 rs
  obtain ⟨its, r, pl, hz⟩ := I.list (show SqL X.K H a (ns.map V.int) from hs)
  exact SeqAt.call_list_index (α := Int) pl.isList (itemsEq_ints r.ints) (by rw [List.length_map] at hz; exact hz) hin ⟨.int _, H, I.tok _, ⟨_, rfl⟩, q⟩
def okRepr (d : PyData) : Bool := d.showable && !d.hasDict && decide (d.depth ≤ 60) && decide (d.shown.length ≤ sizeLine)
def fRepr : FA := fun vs fm => match vs with
  | [v] => match peek v fm with
    | some d => if okRepr d then some (.dat (.str d.shown), fm) else none
    | none => none
  | _ => none
def rRepr (K : PySem.W.Frag) : List V → Hp → VK → Prop := fun vs H Q => ∃ x d, vs = [x] ∧ Dp K H x d ∧ okRepr d = true ∧ Q (.str d.shown) H
theorem p_repr : PrimA K (rRepr K) fRepr := by
  intro F H σ fm fm' vs xs v R Vs h Q q
  unfold fRepr at h
  split at h
  · obtain ⟨y, rfl, V⟩ := vsrel1 Vs
    split at h
    · rename_i d h1
      split at h
      · rename_i ho
        cases h
        exact ⟨y, d, rfl, (peek_dp R V h1).dp, ho, q _ F H (Aft.refl R) (.str _) VNew.dat⟩
      · cases h
    · cases h
  · cases h
theorem call_reprX (hgd : X.A.guards = some []) (hu : X.A.units + 64 < cLine) : CallR X (.builtin "repr") (rRepr X.K) := by
  intro pins s σ H vs us Q I r h
  obtain ⟨x, d, rfl, hd, ho, q⟩ := h
  obtain ⟨u, rfl, rx⟩ := vals1 r
  obtain ⟨as, rd⟩ := Dp.reads I d x u hd rx
  unfold okRepr at ho
  simp only [Bool.and_eq_true, Bool.not_eq_true', decide_eq_true_eq] at ho
  obtain ⟨⟨⟨h1, h2⟩, h3⟩, h4⟩ := ho
  have big : ∀ a, u = .ref a → wpAny (model X.prog X.w) X.A (call (.builtin "repr") [u]) (EP X pins σ Q) X.xe s := fun a e => by
    subst e
    exact repr_of_reads' rd h1 (fun e => by rw [h2] at e; cases e) hgd (by omega) (fun _ _ e => e) (fun h' t tk hk => ⟨.str _, H, I.kept hk, ⟨t, rfl⟩, q⟩) h4
  cases hd with
  | non => cases rx; exact PySem.P.repr_of_none ⟨.str _, H, I.tok _, ⟨_, rfl⟩, q⟩
  | bl b => cases rx; exact PySem.P.repr_of_bool ⟨.str _, H, I.tok _, ⟨_, rfl⟩, q⟩
  | int i =>
    obtain ⟨t, rfl⟩ := rx
    exact PySem.P.repr_of_int (by simpa [PyData.showable] using h1) ⟨.str _, H, I.tok _, ⟨_, rfl⟩, q⟩
  | str z =>
    obtain ⟨t, rfl⟩ := rx
    exact PySem.P.repr_of_str ⟨.str _, H, I.tok _, ⟨_, rfl⟩, q⟩ h4
  | lst _ _ => exact big _ rx
  | tup _ _ => exact big _ rx
end
end Rf

namespace Rf
open PySem PySem.Spec PyProof.Rows L2

structure FnG (P : Program) (w : World) (K : PySem.W.Frag) (mg : Str → Option Value) (base : Heap) (k : Nat) (f : Addr) (fd : FuncData) (ps : List Str) (sp : Sp) : Prop where
  len : ∀ vs H Q E, sp vs H Q E → vs.length = ps.length
  go : ∀ {A : Around} {outer : List Env} {s : Shared} {H : Hp} {args : Args} {us : List Value} {vs : List V} {Q : VK} {E : XK}, Room k A → A.guards = some [] → Env0 P w K mg base A outer s H → BindsTo s fd args (ps.zip us) → Vals vs us → sp vs H Q E →
    codeAny (model P w) A (.call (.ref f) args) (CR (L2.CX P w) outer P w H s Q E) s
section
variable {P : Program} {w : World} {K : PySem.W.Frag} {mg : Str → Option Value} {base : Heap} {f : Addr} {fd : FuncData} {ps : List Str} {sp : Sp}
theorem FnG.mono {j k : Nat} (F : FnG P w K mg base j f fd ps sp) (h : j ≤ k) : FnG P w K mg base k f fd ps sp := ⟨F.len, fun hr => F.go (hr.mono h)⟩
end
theorem passes_none {X : Cx} {σ : L2.St} : PassesAt (L2.CX X.prog X.w) X σ (fun _ _ _ => False) := fun _ _ _ _ _ _ ⟨_, _, _, _, _, _, _, _, _, _, _, _, w⟩ => w.elim
section
variable {X : Cx} {k : Nat} {f : Addr} {fd : FuncData} {ps : List Str} {sp : Sp} {x : Str} {p pos : Pos} {e : Expr} {es : List Expr} {E : L2.St → XK}
theorem run_fnG {pins : List (Addr × Obj)} {σ : L2.St} {H : Hp} {s : Shared} {Q : VK} {us ws : List Value} {vs : List V} {kw : List (Str × Value)} (F : FnG X.prog X.w X.K X.mg X.base k f fd ps sp) (hr : Room k X.A) (hgd : X.A.guards = some []) (hx : PassesAt (L2.CX X.prog X.w) X σ (E σ))
    (I : Inv X pins σ H s) (hb : BindsTo s fd ⟨us, kw⟩ (ps.zip ws)) (r : Vals vs ws) (h : sp vs H Q (E σ)) : wpAny (model X.prog X.w) X.A (call (.ref f) us kw) (EP X pins σ Q) X.xe s := by
  refine wpAny_call (codeAny_mono (F.go hr hgd I.env0 hb r h) fun res s' out => ?_)
  match res, out with
  | .ok (.ret u), out => exact I.after out
  | .ok .next, out => exact False.elim out
  | .ok .brk, out => exact False.elim out
  | .ok .cont, out => exact False.elim out
  | .error e, out => exact hx pins H s e s' I out
theorem pe_callG {t : TA} (F : FnG X.prog X.w X.K X.mg X.base k f fd ps sp) (hr : Room k X.A) (hgd : X.A.guards = some []) (hx : ∀ σ, PassesAt (L2.CX X.prog X.w) X σ (E σ)) (hg : Gl X x) (hm : X.mg x = some (.ref f)) (hk : PySem.W.keepIn X.K (.ref f) = true) (hb : Binds X.K fd ps [])
    (ha : PA X (e :: es) t) (hdb : (x == ("__debug__" : Str)) = false) (hs : isStar e = false) (hn : noStars es = true) : PE X (.Call (.Name x p) (e :: es) [] pos) (tCallS sp E t) := by
  refine ⟨fun pins s σ H Q I h => wpAny_Call_Name_kw (ld_glob I hg hm ?_ hdb)⟩
  refine PySem.W.callWith_K (h₀ := X.base) I.ok.mod.kin hk (thn (ha.run pos pins s σ H _ I h) fun us s1 out => ?_) (star_cons hs) (back_plain hn)
  obtain ⟨vs, H1, I1, r, q⟩ := out
  have hl : (us ++ []).length = ps.length := by rw [List.append_nil, ← r.length]; exact F.len _ _ _ _ q
  have b := hb s1 us I1.kIn hl
  rw [List.append_nil] at b
  exact ⟨I1.kIn, run_fnG F hr hgd (hx σ) I1 b r q⟩
theorem pe_callG0 (F : FnG X.prog X.w X.K X.mg X.base k f fd ps sp) (hr : Room k X.A) (hgd : X.A.guards = some []) (hx : ∀ σ, PassesAt (L2.CX X.prog X.w) X σ (E σ)) (hg : Gl X x) (hm : X.mg x = some (.ref f)) (hk : PySem.W.keepIn X.K (.ref f) = true) (hb : Binds X.K fd ps [])
    (hdb : (x == ("__debug__" : Str)) = false) : PE X (.Call (.Name x p) [] [] pos) (fun σ H Q => sp [] H Q (E σ)) := by
  refine ⟨fun pins s σ H Q I h => wpAny_Call_Name_kw (ld_glob I hg hm ?_ hdb)⟩
  have b := hb s [] I.kIn (F.len _ _ _ _ h)
  exact PySem.W.callWith_K0 I.kIn hk (run_fnG F hr hgd (hx σ) I b .nil h)
def permL {α : Type} (pm : List Nat) (l : List α) : List α := pm.filterMap fun i => l[i]?
def KwB (K : PySem.W.Frag) (fd : FuncData) (ps ks : List Str) (pm : List Nat) : Prop := ∀ (s : Shared) (ws : List Value), K.In s.heap → ws.length = ks.length → BindsTo s fd ⟨[], ks.zip ws⟩ (ps.zip (permL pm ws))
theorem permL_vals {pm : List Nat} {vs : List V} {us : List Value} (r : Vals vs us) : Vals (permL pm vs) (permL pm us) := by
  unfold permL
  induction pm with
  | nil => exact .nil
  | cons i pm ih =>
    rw [List.filterMap_cons, List.filterMap_cons]
    cases h : vs[i]? with
    | none => rw [r.none_of h]; exact ih
    | some v =>
      obtain ⟨u, h1, h2⟩ := r.get h
      rw [h1]
      exact .cons h2 ih
def tCallP (sp : Sp) (pm : List Nat) (n : Nat) (E : L2.St → XK) (t : TA) : TE := fun σ H Q => t σ H fun vs H1 => vs.length = n ∧ sp (permL pm vs) H1 Q (E σ)
theorem pe_callGK {kws : List Keyword} {t : TA} {ks : List Str} {pm : List Nat} (F : FnG X.prog X.w X.K X.mg X.base k f fd ps sp) (hr : Room k X.A) (hgd : X.A.guards = some []) (hx : ∀ σ, PassesAt (L2.CX X.prog X.w) X σ (E σ)) (hg : Gl X x) (hm : X.mg x = some (.ref f)) (hk : PySem.W.keepIn X.K (.ref f) = true) (hb : KwB X.K fd ps ks pm)
    (hkw : PK X kws t) (hdb : (x == ("__debug__" : Str)) = false) (hall : (backToKw pos (keywordEach kws X.env)).all (·.1.isSome) = true) (hks : (backToKw pos (keywordEach kws X.env)).filterMap (·.1) = ks)
    (hpl : ((backTo pos (starEach [] X.env)).any (·.1) || (backToKw pos (keywordEach kws X.env)).any (·.1.isNone)) = false) : PE X (.Call (.Name x p) [] kws pos) (tCallP sp pm ks.length E t) := by
  refine ⟨fun pins s σ H Q I h => wpAny_Call_Name_kw (ld_glob I hg hm ?_ hdb)⟩
  refine PySem.W.callWith_KW0 (h₀ := X.base) I.ok.mod.kin hk hall (thn (hkw.run pos pins s σ H _ I h) fun us s1 out => ?_) hpl
  obtain ⟨vs, H1, I1, r, hl, q⟩ := out
  rw [hks]
  exact ⟨I1.kIn, run_fnG F hr hgd (hx σ) I1 (hb s1 us I1.kIn (by rw [← r.length]; exact hl)) (permL_vals r) q⟩
end
section
variable {K : PySem.W.Frag} {F H : Hp} {σ : L2.St} {fm : Fm}
theorem VsRel.mk : ∀ {vs : List SV} {xs : List V}, vs.length = xs.length → (∀ (k : Nat) (v : SV) (x : V), vs[k]? = some v → xs[k]? = some x → VRel K F H σ fm v x) →
    (∀ (j k : Nat) (c c' : Cell) (x : V), j < k → vs[j]? = some (.fre c) → vs[k]? = some (.fre c') → xs[j]? = some x → xs[k]? ≠ some x) → VsRel K F H σ fm vs xs
  | [], [], _, _, _ => .nil
  | v :: vs, x :: xs, hl, h1, h2 => by
    refine .cons (h1 0 v x rfl rfl) (VsRel.mk (by simpa using hl) (fun k w y e1 e2 => h1 (k + 1) w y (by simpa using e1) (by simpa using e2)) fun j k c c' y hjk e1 e2 e3 => ?_) fun c ec j c' ej => ?_
    · have := h2 (j + 1) (k + 1) c c' y (by omega) (by simpa using e1) (by simpa using e2) (by simpa using e3)
      simpa using this
    · have := h2 0 (j + 1) c c' x (by omega) (by simp [ec]) (by simpa using ej) rfl
      simpa using this
  | [], _ :: _, hl, _, _ => by simp at hl
  | _ :: _, [], hl, _, _ => by simp at hl
theorem VsNew.mk : ∀ {vs : List SV} {xs : List V}, vs.length = xs.length → (∀ (k : Nat) (v : SV) (x : V), vs[k]? = some v → xs[k]? = some x → VNew H v x) → VsNew H vs xs
  | [], [], _, _ => .nil
  | v :: vs, x :: xs, hl, h1 => .cons (h1 0 v x rfl rfl) (VsNew.mk (by simpa using hl) fun k w y e1 e2 => h1 (k + 1) w y (by simpa using e1) (by simpa using e2))
  | [], _ :: _, hl, _ => by simp at hl
  | _ :: _, [], hl, _ => by simp at hl
def okPm (pm : List Nat) (n : Nat) : Bool := decide pm.Nodup && pm.all fun i => decide (i < n)
theorem permL_get {α : Type} {n : Nat} : ∀ {pm : List Nat} {l : List α}, (∀ i ∈ pm, i < n) → l.length = n → ∀ k : Nat, (permL pm l)[k]? = pm[k]?.bind fun i => l[i]?
  | [], _, _, _, k => by simp [permL]
  | i :: pm, l, h, hl, k => by
    have hi : i < l.length := by rw [hl]; exact h i (by simp)
    have e : permL (i :: pm) l = l[i] :: permL pm l := by unfold permL; rw [List.filterMap_cons]; simp [hi]
    rw [e]
    cases k with
    | zero => simp [hi]
    | succ k => simpa using permL_get (n := n) (pm := pm) (fun j hj => h j (by simp [hj])) hl k
theorem permL_len {α : Type} {n : Nat} : ∀ {pm : List Nat} {l : List α}, (∀ i ∈ pm, i < n) → l.length = n → (permL pm l).length = pm.length
  | [], _, _, _ => rfl
  | i :: pm, l, h, hl => by
    have hi : i < l.length := by rw [hl]; exact h i (by simp)
    have e : permL (i :: pm) l = l[i] :: permL pm l := by unfold permL; rw [List.filterMap_cons]; simp [hi]
    rw [e, List.length_cons, List.length_cons, permL_len (n := n) (pm := pm) (fun j hj => h j (by simp [hj])) hl]
def mPermA (pm : List Nat) (n : Nat) (m : MA) : MA := fun fm => match m fm with
  | some (vs, fm1) => if vs.length = n ∧ okPm pm n = true then some (permL pm vs, fm1) else none
  | none => none
theorem tA_perm {pm : List Nat} {n : Nat} {m : MA} {R : List V → Hp → Prop} (h : tA K (mPermA pm n m) σ H R) : tA K m σ H fun xs H1 => xs.length = n ∧ R (permL pm xs) H1 := by
  obtain ⟨F, fm, ws, fm', rel, em, q⟩ := h
  unfold mPermA at em
  split at em
  · rename_i vs fm1 e1
    split at em
    · rename_i hc
      cases em
      refine ⟨F, fm, vs, _, rel, e1, fun xs F1 H1 A V N => ?_⟩
      have hx : xs.length = n := by rw [← V.len]; exact hc.1
      have ho : pm.Nodup ∧ ∀ i ∈ pm, i < n := by
        have := hc.2
        unfold okPm at this
        simpa using this
      have gv := permL_get (l := vs) ho.2 hc.1
      have gx := permL_get (l := xs) ho.2 hx
      have hlen : (permL pm vs).length = (permL pm xs).length := by rw [permL_len ho.2 hc.1, permL_len ho.2 hx]
      refine ⟨hx, q _ F1 H1 A (VsRel.mk hlen (fun k v x e1 e2 => ?_) fun j k c c' x hjk e1 e2 e3 e4 => ?_) (VsNew.mk hlen fun k v x e1 e2 => ?_)⟩
      · rw [gv] at e1; rw [gx] at e2
        obtain ⟨i, hi, e1⟩ := Option.bind_eq_some_iff.mp e1
        rw [hi] at e2
        obtain ⟨y, hy, Vy⟩ := V.get e1
        have e2 : xs[i]? = some x := e2
        rw [hy] at e2; cases e2
        exact Vy
      · rw [gv] at e1 e2; rw [gx] at e3 e4
        obtain ⟨a, ha, e1⟩ := Option.bind_eq_some_iff.mp e1
        obtain ⟨b, hb, e2⟩ := Option.bind_eq_some_iff.mp e2
        rw [ha] at e3; rw [hb] at e4
        have e3 : xs[a]? = some x := e3
        have e4 : xs[b]? = some x := e4
        have ne : a ≠ b := fun z => by
          subst z
          obtain ⟨h1, g1⟩ := List.getElem?_eq_some_iff.mp ha
          obtain ⟨h2, g2⟩ := List.getElem?_eq_some_iff.mp hb
          exact (List.pairwise_iff_getElem.mp ho.1) j k h1 h2 hjk (by rw [g1, g2])
        rcases Nat.lt_or_gt_of_ne ne with hab | hab
        · exact V.apart hab e1 e2 e3 e4
        · exact V.apart hab e2 e1 e4 e3
      · rw [gv] at e1; rw [gx] at e2
        obtain ⟨i, hi, e1⟩ := Option.bind_eq_some_iff.mp e1
        rw [hi] at e2
        have e2 : xs[i]? = some x := e2
        exact N.get e1 e2
    · cases em
  · cases em
end
end Rf

namespace Rf
open PySem PySem.Spec PyProof.Rows L2

structure FunV (K : PySem.W.Frag) (x qual : Str) (st : Stmt) (f : Addr) (fd : FuncData) : Prop where
  ex : ∃ (oc : Value) (od : Option Addr) (dV kV doc pm : Value) (an : Option Addr) (cdv ct : Value) (osl : Array (Option Value)),
    fd = PySem.W.fnOf x qual (defArgs st) (defBody st) (defScope st) dV kV doc pm an cdv ct ∧ K.lookup f = some ⟨oc, od, .func fd, osl⟩ ∧ PySem.W.codeIn K cdv qual = true
  kp : PySem.W.keepIn K (.ref f) = true
theorem FunV.of {K : PySem.W.Frag} {x qual : Str} {st : Stmt} {f : Addr} {fd : FuncData} (F : Fun K x qual st f fd) : FunV K x qual st f fd := by
  obtain ⟨oc, od, kV, doc, pm, an, cdv, ct, osl, h⟩ := F.ex
  exact ⟨⟨oc, od, .none, kV, doc, pm, an, cdv, ct, osl, h⟩, F.kp⟩
section
variable {P : Program} {w : World} {K : PySem.W.Frag} {mg : Str → Option Value} {base : Heap}
theorem fnG_ok {x qual : Str} {st : Stmt} {f : Addr} {fd : FuncData} {N ps : List Str} {k : Nat} {ro : List Nat} {m : MS} (Fn : FunV K x qual st f fd) (S : FnScope N ps (defScope st)) (hro : ∀ i ∈ ro, i < ps.length)
    (hb : ∀ (cdv : Value) (A : Around) (outer : List Env) (s : Shared) (H : Hp) (E : XK), Room k (A.deeper (envOfC qual (defScope st) s.heap.objs.size f cdv)) → A.guards = some [] →
      SSs (cxOf (L2.CX P w) P w K mg base N qual (defScope st) f cdv A outer s H E) ro (defBody st) m) :
    FnG P w K mg base (k + 1) f fd ps (spM K (mkD ps.length N.length ro m)) := by
  obtain ⟨oc, od, dV, kV, doc, pm, an, cdv, ct, osl, rfl, lk, hcd⟩ := Fn.ex
  have hlen : ∀ (vs : List V) (H : Hp) (Q : VK) (E : XK), spM K (mkD ps.length N.length ro m) vs H Q E → vs.length = ps.length := fun vs H Q E h => by
    obtain ⟨F, as, r, outs, R, em, _⟩ := h
    have e := R.len
    rw [List.length_map, List.length_map] at e
    unfold mkD at em
    split at em
    · rename_i hn; rw [← e]; exact hn
    · cases em
  refine ⟨hlen, fun {A outer s H args us vs Q E} hr hgd e0 bt r hsp => ?_⟩
  have hl := hlen _ _ _ _ hsp
  have kin : K.In s.heap := e0.mod.kin.keeps fun b o e => (e0.bs b o e).1
  have lim : s.heap.NoLimit := e0.mod.nolimit.keeps fun b o e => (e0.bs b o e).1
  have kinds : ∀ y ∈ ps.zip us, (defScope st).names.lookup y.1 = some .local ∨ ((defScope st).names.lookup y.1 = some .cell ∧ ((cellsFrom (s.heap.objs.size + 1) (defScope st).names []).lookup y.1).isSome = true) := by
    rintro ⟨n, v⟩ hy
    rcases S.par n (List.of_mem_zip hy).1 with q | q
    · exact .inl q
    · exact .inr ⟨q, PySem.W.cellsFrom_some _ _ _ (.inl q)⟩
  refine codeAny_call_function hr.depth (kin _ _ lk) rfl S.co S.gen rfl (PySem.W.codeRec_of kin hcd) (bt _ _ _ _ ?_)
  refine wpAny_newFunctionEnv_cells S.kind kinds fun env he s1 inc => ?_
  subst he
  refine ⟨lim.keeps inc.toInCall.keep, codeAny_func ?_⟩
  have I : Inv (cxOf (L2.CX P w) P w K mg base N qual (defScope st) f cdv A outer s H E) [] (L2.start N vs) H s1 := inv_start S hr.hd e0 hl r inc
  have body : PSs (cxOf (L2.CX P w) P w K mg base N qual (defScope st) f cdv A outer s H E) (defBody st) (tS K (fun cls d _ H' => E cls d H') ro m) := hb cdv A outer s H E (hr.deeper _) hgd _ (takes_of rfl rfl rfl rfl)
  have start : tS K (fun cls d _ H' => E cls d H') ro m { nx := fun _ H' => Q .non H', rt := Q } (L2.start N vs) H := by
    obtain ⟨F, as, rr, outs, R, em, q, qx⟩ := hsp
    have e := R.len
    rw [List.length_map, List.length_map] at e
    have hn : as.length = ps.length := e.trans hl
    have b := body_ok (x := x) R hn q qx em hro
    unfold L2.start
    rw [← e, hn]
    exact b
  refine wpAny_mono (body.run [] s1 (L2.start N vs) H _ I start) (fun fl s' out => ?_) fun _ _ out => out
  match fl, out with
  | .ret u, ⟨v, σ', H', J, rv, q⟩ => exact ⟨v, H', J.os, J.bare, J.base, J.hok, rv, q⟩
  | .next, ⟨σ', H', J, q⟩ => exact ⟨.non, H', J.os, J.bare, J.base, J.hok, rfl, q⟩
  | .brk, ⟨_, _, _, q⟩ => exact False.elim q
  | .cont, ⟨_, _, _, q⟩ => exact False.elim q
end
end Rf

namespace Rf
open PySem PySem.Spec PyProof.Rows L2

def scr (ns : List Int) : PyData := .list (ns.map .int)
theorem spM_law {K : PySem.W.Frag} {H : Hp} {a : Addr} {ns : List Int} {D : Dm} {E : XK} (hs : SqL K H a (ns.map V.int)) (h : ∃ outs, D [.dat (scr ns)] = some (.dat (.bool true), outs)) : spM K D [.ref a] H (fun v _ => v = .bl true) E := by
  obtain ⟨outs, h⟩ := h
  refine ⟨H, [.dat (scr ns)], _, outs, ⟨Same.refl _, rfl, fun i d hi => ?_, fun i c hi => ?_, fun i j c c' p _ hi => ?_⟩, h, fun x F' H' _ V _ => ?_, fun xc e => nomatch e⟩
  · cases i with
    | zero =>
      have e : d = scr ns := by simpa [fA] using hi.symm
      subst e
      exact ⟨.ref a, rfl, .lst hs (ints_dq ns)⟩
    | succ i => simp [fA] at hi
  · cases i with
    | zero => simp [fA] at hi
    | succ i => simp [fA] at hi
  · cases i with
    | zero => simp [fA] at hi
    | succ i => simp [fA] at hi
  · cases (show Dq K F' x (.bool true) from V)
    rfl
section
variable {P : Program} {w : World} {K : PySem.W.Frag} {mg mb : Str → Option Value} {k : Nat} {fa a : Addr} {fd : FuncData} {x : Str} {sp : Sp} {s₁ : Shared} {vs : List Value} {ns : List Int}
theorem law_coreG (H : Hp) (kx : K.In s₁.heap) (g : s₁.heap.Ns mainGlobals mg) (b : s₁.heap.Ns builtinsNs mb) (bb : ∀ x : Str, x ≠ "__name__" → mb x = bootBuiltins x) (lim : s₁.heap.NoLimit) (gens : s₁.gens = #[])
    (at_ : s₁.heap.get? a = some { cls := .type "list", data := .seq vs.toArray }) (hr : Room k callerA) (F : ∀ base : Heap, K.In base → base.Ns mainGlobals mg → FnG P w K mg base k fa fd [x] sp)
    (hbind : ∀ (s : Shared) (u : Value), BindsTo s fd ⟨[u], []⟩ [(x, u)]) (hO : Only H) (hsp : sp [.ref a] H (fun v _ => v = .bl true) fun _ _ _ => False) (hok : HOk P w H s₁.heap) (one : ∀ b, H b ≠ none → b = a) (out : H a ≠ none → K.lookup a = none) :
    codeAny (model P w) callerA (.call (.ref fa) ⟨[.ref a], []⟩) (fun r s' => r = .ok (.ret (.bool true)) ∧ OldK s₁.heap s'.heap ∧ s'.os = s₁.os ∧ AllBare s'.gens) s₁ := by
  have free : ∀ {c : Addr} {o : Obj}, s₁.heap.get? c = some o → (∀ vs' n, o.data ≠ .seq vs' n) → H c = none := fun {c o} e d => by
    cases q : H c with
    | none => rfl
    | some u =>
      have z := one c (by rw [q]; exact fun z => nomatch z)
      subst z
      rw [at_] at e
      cases e
      exact absurd rfl (d _ _)
  have ns' : ∀ {c : Addr} {m : Str → Option Value}, s₁.heap.Ns c m → (hidT s₁.heap H).Ns c m := fun {c m} z => by
    obtain ⟨o, es, ep, e, d, r⟩ := z
    exact ⟨o, es, ep, hidT_get e (free e fun vs' n z => by rw [d] at z; cases z), d, r⟩
  have kb : K.In (hidT s₁.heap H) := fun c o e => by
    refine hidT_get (kx c o e) ?_
    cases q : H c with
    | none => rfl
    | some u =>
      have z := one c (by rw [q]; exact fun z => nomatch z)
      subst z
      have := out (by rw [q]; exact fun z => nomatch z)
      rw [this] at e
      cases e
  have limb : (hidT s₁.heap H).NoLimit := by
    obtain ⟨mc, h1, h2⟩ := lim
    exact ⟨mc, ns' h1, h2⟩
  have e0 : Env0 P w K mg (hidT s₁.heap H) callerA [] s₁ H := by
    refine ⟨rfl, ⟨kb, ns' g, ⟨mb, ns' b, bb⟩, limb⟩, fun c o e => of_hidT e, Nat.le_of_eq (hidT_size _ _), trivial, fun c hc => ?_, hok, .of_eq gens⟩
    exact absurd (show c ∈ ([] : List Addr) from hc) (by simp)
  refine codeAny_mono ((F _ kb (ns' g)).go (us := [.ref a]) (vs := [.ref a]) hr rfl e0 (hbind s₁ (.ref a)) (.cons rfl .nil) hsp) fun r s' res => ?_
  match r, res with
  | .error _, ⟨_, _, _, _, _, _, _, _, _, _, _, _, w⟩ => exact w.elim
  | .ok .next, res => exact False.elim res
  | .ok .brk, res => exact False.elim res
  | .ok .cont, res => exact False.elim res
  | .ok (.ret u), ⟨v, H', os, bare, un, hok', rv, q⟩ =>
    cases (show v = .bl true from q)
    obtain rfl : u = Value.bool true := rv
    refine ⟨rfl, OldK.of_keep fun c o e => ?_, os, bare⟩
    cases z : H c with
    | none => exact un.keep c o e z (fun z => absurd (show c ∈ ([] : List Addr) from z) (by simp)) (by simp)
    | some u =>
      rcases hO c with y | ⟨ob, xs, y⟩
      · rw [z] at y; cases y
      · have e1 := (hok c _ y).1
        have e2 := (hok' c _ (un.frzs c ob _ y)).1
        rw [e] at e1; cases e1
        exact e2
theorem law_callG (kx : K.In s₁.heap) (g : s₁.heap.Ns mainGlobals mg) (b : s₁.heap.Ns builtinsNs mb) (bb : ∀ x : Str, x ≠ "__name__" → mb x = bootBuiltins x) (lim : s₁.heap.NoLimit) (gens : s₁.gens = #[])
    (at_ : s₁.heap.get? a = some { cls := .type "list", data := .seq vs.toArray }) (hi : IntsAre vs ns) (hl : ns.length ≤ sizeLine) (hr : Room k callerA) (F : ∀ base : Heap, K.In base → base.Ns mainGlobals mg → FnG P w K mg base k fa fd [x] sp)
    (hbind : ∀ (s : Shared) (u : Value), BindsTo s fd ⟨[u], []⟩ [(x, u)]) (hsp : ∀ H : Hp, Only H → SqL K H a (ns.map V.int) → sp [.ref a] H (fun v _ => v = .bl true) fun _ _ _ => False) :
    codeAny (model P w) callerA (.call (.ref fa) ⟨[.ref a], []⟩) (fun r s' => r = .ok (.ret (.bool true)) ∧ OldK s₁.heap s'.heap ∧ s'.os = s₁.os ∧ AllBare s'.gens) s₁ := by
  have rv := vals_ints hi
  have hn := hi.length
  cases hk : K.lookup a with
  | some o =>
    have e := kx a o hk
    rw [at_] at e
    cases e
    have sq : SqL K (fun _ => none) a (ns.map V.int) := .inr ⟨_, vs.toArray, _, hk, rfl, rfl, rfl, by rw [List.size_toArray, hn]; exact hl, by simpa using rv⟩
    have ho : Only (fun _ => none) := fun _ => .inl rfl
    exact law_coreG (fun _ => none) kx g b bb lim gens at_ hr F hbind ho (hsp _ ho sq) (fun c u z => nomatch (show (none : Option HO) = some u from z)) (fun c z => absurd rfl z) fun z => absurd rfl z
  | none =>
    have ho : Only (upd (fun _ => none) a (.frz { cls := .type "list", data := .seq vs.toArray } (.lst (ns.map V.int)))) := fun c => by
      by_cases z : c = a
      · subst z; exact .inr ⟨_, _, upd_same⟩
      · exact .inl (by rw [upd_ne z])
    refine law_coreG _ kx g b bb lim gens at_ hr F hbind ho (hsp _ ho (.inl (.inr ⟨_, upd_same⟩))) (fun c u z => ?_) (fun c z => ?_) fun _ => hk
    · by_cases e : c = a
      · subst e
        rw [upd_same] at z
        cases z
        exact ⟨at_, by rw [List.length_map]; exact hl, vs, _, rv, at_⟩
      · rw [upd_ne e] at z; cases z
    · by_cases e : c = a
      · exact e
      · rw [upd_ne e] at z; exact absurd rfl z
end
theorem walk_ofG {l : PySem.W.OpenLaw} {n k : Nat} {q : Program} {loose : List Str} {XP : (Str → Option Value) → Heap → Prop} {YP : World → Heap → Prop} {d : DefRec} {K : Params → PySem.W.Frag} {x : Str} {D : Dm}
    (hn : l.most = some n) (hn2 : n ≤ sizeLine) (hdf : d.params.defaults = []) (hr : Room k callerA) (hY : ∀ (w : World) (h : Heap), YP w h → (K w.params).In h)
    (F : ∀ (w : World) (mg : Str → Option Value) (fa : Addr) (h : Heap), (K w.params).In h → h.Ns mainGlobals mg → mg d.name = some (.ref fa) →
      ∃ fd : FuncData, (∀ (s : Shared) (u : Value), BindsTo s fd ⟨[u], []⟩ [(x, u)]) ∧ ∀ base : Heap, (K w.params).In base → base.Ns mainGlobals mg → FnG l.prog w (K w.params) mg base k fa fd [x] (spM (K w.params) D))
    (hD : ∀ ns : List Int, ns.length ≤ n → ∃ outs, D [.dat (scr ns)] = some (.dat (.bool true), outs)) : PySem.W.WalkO q loose XP YP l.row.toRowW d [] (fun f vs => PySem.call f vs) := by
  refine Att.attach_call hn hdf fun w s₀ s₁ mg mb fa o pm cd doc a vs ns G Y ho hd hcd hmg hobj hints hlen hg => ?_
  have kx := hY w _ Y
  obtain ⟨fd, hb, hF⟩ := F w mg fa _ kx G.T.g hmg
  exact law_callG kx G.T.g G.T.b G.T.builtins G.T.nolimit hg hobj hints (Nat.le_trans hlen hn2) hr hF hb fun H _ hS => spM_law hS (hD ns hlen)
end Rf

namespace Rf
open PySem PySem.Spec PyProof.Rows L2

section
variable {K : PySem.W.Frag}
def rIns : V → List V → Hp → VK → Prop := fun x vs H Q => ∃ (l : Addr) (xs : List V) (i : Int) (y : V), x = .ref l ∧ vs = [.int i, y] ∧ H l = some (.lst xs) ∧ xs.length < sizeLine ∧ 0 ≤ i ∧ i < 2 ^ 63 ∧ Q .non (upd H l (.lst (xs.take i.toNat ++ [y] ++ xs.drop i.toNat)))
theorem p_insert : PrimZ K rIns fInsert := by
  intro F H σ fm fm' o ds x xs v R V D h Q q
  unfold fInsert at h
  split at h
  · rename_i i k d
    obtain ⟨hx, _⟩ := V
    cases D with
    | cons D1 D2 =>
      cases D2 with
      | cons D2 D3 =>
        cases D3
        cases D1
        split at h
        · rename_i es hi
          split at h
          · rename_i hl
            cases h
            obtain ⟨p, vs, rfl, hs, hp, r⟩ := R.ownL hi hx
            refine ⟨p, vs, k, _, rfl, rfl, hp, by rw [dpAll_len r]; exact hl.1, hl.2.1, hl.2.2, ?_⟩
            exact q _ F _ (Aft.write R hi hs (dpAll_app (dpAll_app (dpAll_take _ r) (.cons D2 .nil)) (dpAll_drop _ r))) .non VNew.dat
          · cases h
        · cases h
  · cases h
end
section
variable {prog : Program} {w : World} {A : Around} {E : Value → Shared → Prop} {s : Shared}
theorem fm_congr {α β : Type} {f g : α → Option β} : ∀ {l : List α}, (∀ a ∈ l, f a = g a) → l.filterMap f = l.filterMap g
  | [], _ => rfl
  | a :: l, h => by
    rw [List.filterMap_cons, List.filterMap_cons, h a (by simp), fm_congr fun b hb => h b (by simp [hb])]
theorem back_pick (xs : Array Value) : ((List.range xs.size).filterMap fun (k : Nat) => xs[((xs.size : Int) - 1 + (k : Int) * -1).toNat]?).toArray = xs.toList.reverse.toArray := by
  congr 1
  have e : ((List.range xs.size).filterMap fun (k : Nat) => xs[((xs.size : Int) - 1 + (k : Int) * -1).toNat]?) = (List.range xs.size).map fun k => xs.toList.reverse.getD k .none := by
    rw [← List.filterMap_eq_map]
    refine fm_congr fun k hk => ?_
    have hk := List.mem_range.mp hk
    have e1 : ((xs.size : Int) - 1 + (k : Int) * -1).toNat = xs.size - 1 - k := by omega
    rw [e1, Array.getElem?_eq_getElem (by omega)]
    show some _ = some _
    congr 1
    show _ = xs.toList.reverse.getD k .none
    rw [List.getD_eq_getElem?_getD, List.getElem?_reverse (by simpa using hk)]
    simp only [Array.length_toList]
    rw [Array.getElem?_toList, Array.getElem?_eq_getElem (by omega)]
    rfl
  rw [e]
  refine List.ext_getElem (by simp) fun i h1 h2 => ?_
  simp only [List.getElem_map, List.getElem_range]
  rw [List.getD_eq_getElem?_getD, List.getElem?_eq_getElem h2]
  rfl
theorem tuple_back {t sl : Addr} {items : Array Value} {vl vu vk : Value} {Q : Value → Shared → Prop} (ht : IsTup s.heap t items) (hs : s.heap.IsSliceOf sl vl vu vk) (pl : IsPart vl none) (pu : IsPart vu none) (pk : IsPart vk (some (-1)))
    (h : Q (.ref s.heap.objs.size) { s with heap := s.heap.push { cls := .type "tuple", data := .seq items.toList.reverse.toArray } }) (hsz : items.size ≤ sizeLine) : wpAny (model prog w) A (getItem (.ref t) (.ref sl)) Q E s := by
  have fits : sizeOk (.seq items.toList.reverse.toArray) := by
    show items.toList.reverse.toArray.size ≤ sizeLine
    simpa using hsz
  obtain ⟨os, hos, hcs, hds⟩ := id hs
  have isS : s.TypeIs (.ref sl) "slice" := ⟨os, hos, hcs⟩
  unfold getItem
  try with_reducible refine wpAny_holding ?_
  first
    | refine wpAny_bind (wpAny_pure ?_)
    | skip
  refine wpAny_bind (wpAny_sequenceKey ht.typeIs (by decide) (wpAny_bind (wpAny_callSpecial?_slot (name := Str.ofString "__getitem__") ht.typeIs PyProof.Rows.slot_tuple_getitem (wpAny_call_entry PyProof.Rows.slot_tuple_getitem ht.typeIs entry_tuple_getitem ?_ (args_tuple_getitem _ _)))))
  show wpAny _ _ (Builtin.Tuple.tupleItemsOf (.ref t) >>= _) _ _ s
  refine wpAny_bind (tupleItemsOf_ ht (wpAny_bind (wpAny_typeOf isS ?_)))
  rw [if_pos (by decide)]
  have applied : ∀ {Q' : Int × Int × Nat → Shared → Prop}, Q' ((items.size : Int) - 1, -1, items.size) s → wpAny (model prog w) A.in1 (Builtin.Slice.sliceApplied (.ref sl) (pure (items.size : Int))) Q' E s := fun {Q'} q => by
    unfold Builtin.Slice.sliceApplied Builtin.Slice.sliceFields
    refine wpAny_bind (wpAny_bind (wpAny_field hos hds (x := vl) rfl (wpAny_bind (wpAny_field hos hds (x := vu) rfl (wpAny_bind (wpAny_field hos hds (x := vk) rfl (wpAny_pure ?_)))))))
    refine wpAny_bind (HT.slicePart_ pk ?_)
    show wpAny _ _ (if ((-1 : Int) == 0) = true then _ else _) _ _ s
    rw [if_neg (by decide)]
    refine wpAny_bind (HT.slicePart_ pl (wpAny_bind (HT.slicePart_ pu (wpAny_bind (wpAny_pure ?_)))))
    have e : Builtin.Slice.slicePlaces ((items.size : Int) - 1) (-1) (-1) = items.size := by
      unfold Builtin.Slice.slicePlaces
      have h1 : ¬ ((-1 : Int) > 0) := by omega
      simp only [h1, if_false, Int.neg_neg, Int.ediv_one]
      split <;> omega
    show wpAny _ _ (pure (((items.size : Int) - 1), (-1 : Int), Builtin.Slice.slicePlaces ((items.size : Int) - 1) (-1) (-1))) _ _ s
    rw [e]
    exact wpAny_pure q
  refine wpAny_bind (applied ?_)
  have no : ¬ ((((items.size : Int) - 1) == 0 && (-1 : Int) == 1 && items.size == items.size) = true) := by simp
  show wpAny _ _ (if (((items.size : Int) - 1) == 0 && (-1 : Int) == 1 && items.size == items.size) = true then _ else _) _ _ s
  rw [if_neg no, back_pick]
  first
    | exact wpAny_bind (m := Builtin.Tuple.tupleExact _) (wpAny_newObj_type (wpAny_pure ⟨_, rfl, wpAny_pure h⟩) fits)
    | exact wpAny_bind (m := Builtin.Tuple.tupleExact _) (wpAny_newObj_type (wpAny_bind (wpAny_pure (wpAny_pure ⟨_, rfl, wpAny_pure h⟩))) fits)
    | exact wpAny_bind (wpAny_bind (m := Builtin.Tuple.tupleExact _) (wpAny_newObj_type (wpAny_pure (wpAny_pure ⟨_, rfl, wpAny_pure h⟩)) fits))
    | exact wpAny_bind (wpAny_bind (m := Builtin.Tuple.tupleExact _) (wpAny_newObj_type (wpAny_pure ⟨_, rfl, wpAny_pure h⟩) fits))
end
def rBack (K : PySem.W.Frag) (x : V) (H : Hp) (Q : VK) : Prop := (∃ a xs, x = .ref a ∧ SqL K H a xs ∧ ∀ p, H p = none → Q (.ref p) (upd H p (.lst xs.reverse))) ∨ ∃ a xs, x = .ref a ∧ SqT K H a xs ∧ rNewP xs.reverse H Q
section
variable {X : Cx}
theorem pe_back {e : Expr} {te : TE} {k : Nat} {p1 p2 p3 pos : Pos} (he : PE X e te) : PE X (.Subscript e (.Slice none none (some (.UnaryOp .USub (.Constant (.int 1) k p1) p2)) p3) pos) (fun σ H Q => te σ H fun x H1 => rBack X.K x H1 Q) := by
  refine ⟨fun pins s σ H Q I h => Subscript_ (thn (he.run pins s σ H _ I h) fun v s1 got => ?_)⟩
  obtain ⟨x, H1, I1, r1, q⟩ := got
  have hst : PO X (some (.UnaryOp .USub (.Constant (.int 1) k p1) p2)) (tPart (tUn (rU fun i => .int (-i)) (tC (.int 1)))) := po_some (pe_un un_neg pe_int)
  refine wpAny_Slice (thn (po_none.run pins s1 σ H1 (fun o H2 => o = none ∧ H2 = H1) I1 ⟨rfl, rfl⟩) fun vl s2 g2 => ?_)
  obtain ⟨l, H2, I2, pl, rfl, rfl⟩ := g2
  refine thn (po_none.run pins s2 σ H2 (fun o H3 => o = none ∧ H3 = H2) I2 ⟨rfl, rfl⟩) fun vu s3 g3 => ?_
  obtain ⟨u, H3, I3, pu, rfl, rfl⟩ := g3
  refine thn (hst.run pins s3 σ H3 (fun o H4 => o = some (-1) ∧ H4 = H3) I3 ⟨1, rfl, -1, rfl, rfl, rfl⟩) fun vs s4 g4 => ?_
  obtain ⟨o, H4, I4, ps, rfl, rfl⟩ := g4
  have I5 : Inv X pins σ H4 { s4 with heap := s4.heap.push { cls := .type "slice", data := .fields #[vl, vu, vs] } } := I4.kept (t' := s4.toks) fun b ob q => Heap.get?_push_of_some _ q
  rcases q with ⟨a, xs, rfl, hx, q⟩ | ⟨a, xs, rfl, hx, q⟩
  · cases r1
    obtain ⟨its, r, ht, hz⟩ := I5.list hx
    have hlen := r.length
    show wpAny (model X.prog X.w) X.A (subscriptTail e (.Slice none none (some (.UnaryOp .USub (.Constant (.int 1) k p1) p2)) p3) (.ref a) (.ref s4.heap.objs.size)) (EP X pins σ Q) X.xe _
    refine tail_any (ops := [.ref a, .ref s4.heap.objs.size]) ht.isList.typeIs (PySem.slot_list_getitem.lookup) (wpAny_getItem_list_slice ht.isList (Heap.IsSliceOf.new _ vl vu vs) pl pu ps (by decide) ?_ (by rw [List.size_toArray]; omega)) (by with_unfolding_all rfl)
    rw [PySem.W.krv_pick]
    refine ⟨.ref _, _, I5.laid (t' := s4.toks) (o := .lst xs.reverse) (fun b ob q => Heap.get?_push_of_some _ q) (Nat.le_refl _) ?_, rfl, q _ (I5.hok.fresh (Nat.le_refl _))⟩
    refine ⟨?_, its.reverse, 0, r.reverse, Heap.get?_push_size _ rfl⟩
    rw [List.length_reverse]; exact hz
  · cases r1
    obtain ⟨its, r, ht, hz⟩ := I5.tuple hx
    have hlen := r.length
    show wpAny (model X.prog X.w) X.A (subscriptTail e (.Slice none none (some (.UnaryOp .USub (.Constant (.int 1) k p1) p2)) p3) (.ref a) (.ref s4.heap.objs.size)) (EP X pins σ Q) X.xe _
    refine tail_any (ops := [.ref a, .ref s4.heap.objs.size]) ht.typeIs (PyProof.Rows.slot_tuple_getitem.lookup) (tuple_back ht (Heap.IsSliceOf.new _ vl vu vs) pl pu ps ?_ (by rw [List.size_toArray]; omega)) (by with_unfolding_all rfl)
    exact ⟨.ref _, _, inv_newP (t' := s4.toks) I5 (r.reverse) (by rw [List.length_reverse]; exact hz) (by simp), rfl, q _ _ (I5.hok.fresh (Nat.le_refl _)) rfl⟩
def fBack : F1 := fun v fm => match peek v fm with
  | some (.list ds) => some (.fre (.lst ds.reverse), fm)
  | some (.tuple ds) => some (.dat (.tuple ds.reverse), fm)
  | _ => none
theorem p_back {K : PySem.W.Frag} : Prim1 K (rBack K) fBack := by
  intro F H σ fm fm' va x v R Va h Q q
  unfold fBack at h
  split at h
  · rename_i ds h1
    cases h
    obtain ⟨a, ys, rfl, s1, r1⟩ := peek_list R Va h1
    exact .inl ⟨a, ys, rfl, s1, fun p hp => q _ F _ (Aft.lay R hp) (Aft.newL R hp (dpAll_rev r1)) (VNew.ref hp)⟩
  · rename_i ds h1
    cases h
    obtain ⟨a, ys, rfl, s1, r1⟩ := peek_tup R Va h1
    exact .inr ⟨a, ys, rfl, s1.1, fun p o hp hd => q _ _ _ (Aft.layF R hp) (Aft.newT R hp hd (dpAll_rev r1)) VNew.dat⟩
  · cases h
theorem se_back {e : Expr} {m : ME} {k : Nat} {p1 p2 p3 pos : Pos} (h : SE X e m) : SE X (.Subscript e (.Slice none none (some (.UnaryOp .USub (.Constant (.int 1) k p1) p2)) p3) pos) (m1 fBack m) := pe_le (pe_back h) fun σ H Q h => tE_1 p_back h
end
end Rf

namespace Rf
open PySem PySem.Spec PyProof.Rows L2

section
variable {prog : Program} {w : World} {A : Around} {E : Value → Shared → Prop} {s : Shared}
theorem bounds_up {a c : Int} {n : Nat} (h0 : 0 ≤ a) (hac : a ≤ c) : sliceBounds (some a) (some c) none n = (((min a.toNat n : Nat) : Int), ((min c.toNat n : Nat) : Int), 1) := by
  obtain ⟨h1, h2, h3⟩ := slice_bounds (some a) (some c) n
  have e1 : HT.sIx n 0 (some a) = min a.toNat n := by
    show (if a < 0 then _ else _) = _
    rw [if_neg (by omega)]
  have e2 : HT.sIx n n (some c) = min c.toNat n := by
    show (if c < 0 then _ else _) = _
    rw [if_neg (by omega)]
  rw [e1] at h1
  rw [e2] at h2
  exact Prod.ext h1 (Prod.ext h2 h3)
set_option maxRecDepth 100000 in
theorem splice_store {l b sl : Addr} {items new : Array Value} {n : Nat} {vl vu : Value} {a c : Int} {ob : Obj} {n2 : Nat} {Q : Unit → Shared → Prop} (el : s.heap.get? l = some { cls := .type "list", data := .seq items n })
    (eb : s.heap.get? b = some ob) (cb : ob.cls = .type "list") (db : ob.data = .seq new n2) (ne : l ≠ b) (hs : s.heap.IsSliceOf sl vl vu .none) (pl : IsPart vl (some a)) (pu : IsPart vu (some c)) (h0 : 0 ≤ a) (hac : a ≤ c) (fits : items.size + new.size ≤ sizeLine)
    (h : Q () { s with heap := s.heap.update l (Obj.mapSeq fun xs => xs.extract 0 (min a.toNat items.size) ++ new ++ xs.extract (min c.toNat items.size) xs.size) }) : wpAny (model prog w) A (setItem (.ref l) (.ref sl) (.ref b)) Q E s := by
  have isL : s.heap.IsList l items := PySem.IsL.isList el
  have isB : s.heap.IsList b new := ⟨ob, eb, cb, n2, db⟩
  obtain ⟨os, hos, hcs, hds⟩ := id hs
  have isS : s.TypeIs (.ref sl) "slice" := ⟨os, hos, hcs⟩
  have step : ¬ ((rawPart none == rawInt 0) = true) := Bool.false_ne_true
  have other : Builtin.List.listSameRef (.ref l) (.ref b) = false := by unfold Builtin.List.listSameRef; exact beq_eq_false_iff_ne.mpr ne
  have top : (max (((min a.toNat items.size : Nat)) : Int) (((min c.toNat items.size : Nat)) : Int)).toNat = min c.toNat items.size := by omega
  have small : ((fun xs : Array Value => xs.extract 0 (min a.toNat items.size) ++ new ++ xs.extract (min c.toNat items.size) xs.size) items).size ≤ sizeLine + 1 := by simp only [Array.size_append, Array.size_extract]; omega
  unfold setItem
  try with_reducible refine wpAny_holding ?_
  first
    | refine wpAny_bind (wpAny_pure ?_)
    | skip
  refine wpAny_bind (wpAny_sequenceKey isL.typeIs (by decide) (wpAny_bind (wpAny_callSpecial?_slot (name := Str.ofString "__setitem__") isL.typeIs slot_list_setitem (wpAny_call_entry slot_list_setitem isL.typeIs entry_list_setitem ?_ (args_list_setitem _ _ _)))))
  show wpAny _ _ (Builtin.List.listSubscript? (.ref sl) >>= _) _ _ s
  refine wpAny_bind ?_
  unfold Builtin.List.listSubscript?
  refine wpAny_bind (wpAny_specialOf isS slice_no_index ?_)
  simp only [Option.isNone_none, if_true]
  refine wpAny_pure ?_
  show wpAny _ _ (typeOf (.ref sl) >>= _) _ _ s
  refine wpAny_bind (wpAny_typeOf isS ?_)
  first
    | refine PySem.W.KFB.if_not (by decide) ?_
    | rw [if_neg (by decide)]
  rw [listSliceParts_eq]
  refine wpAny_bind (wpAny_bind (wpAny_field hos hds (x := .none) rfl (wpAny_bind (wpAny_listPart .none ?_))))
  rw [if_neg step]
  refine wpAny_bind (wpAny_field hos hds (x := vl) rfl (wpAny_bind (wpAny_listPart pl (wpAny_bind (wpAny_field hos hds (x := vu) rfl (wpAny_bind (wpAny_listPart pu (wpAny_pure ?_))))))))
  first
    | refine PySem.W.KFB.if_not other ?_
    | simp only [other, Bool.false_eq_true, if_false]
  refine wpAny_bind (m := Builtin.List.listAllItems (.ref b) "must assign iterable to extended slice") ?_
  unfold Builtin.List.listAllItems
  refine wpAny_bind (wpAny_typeOf isB.typeIs ?_)
  first
    | refine PySem.W.KFB.if_so (by decide) ?_
    | rw [if_pos (by decide)]
  unfold Builtin.List.listItems
  refine wpAny_bind (wpAny_seqItems eb db (wpAny_pure (wpAny_bind (wpAny_bind (wpAny_seqItems el rfl (wpAny_pure ?_))))))
  refine wpAny_bind (wpAny_of_eq ((sliceIndices_raw (some a) (some c) none items.size (by simp)).trans (congrArg (pure : Int × Int × Int → Sem (Int × Int × Int)) (bounds_up h0 hac))) ?_)
  show wpAny _ _ (if ((1 : Int) == 1) = true then _ else _) _ _ s
  rw [if_pos (by decide)]
  refine wpAny_bind (wpAny_rule ?_)
  first
    | refine PySem.W.KFB.if_not (notLongL fits) ?_
    | simp only [notLongL fits, Bool.false_eq_true, if_false]
  first
    | refine wpAny_bind (wpAny_pure ?_)
    | skip
  show wpAny _ _ (updateSeq l (fun xs => xs.extract 0 (((min a.toNat items.size : Nat)) : Int).toNat ++ new ++ xs.extract (max (((min a.toNat items.size : Nat)) : Int) (((min c.toNat items.size : Nat)) : Int)).toNat xs.size) >>= _) _ _ s
  rw [top, Int.toNat_natCast]
  refine wpAny_bind (wpAny_updateSeq (hz := Nat.le_trans (Nat.le_add_right _ _) fits) (_hz' := small) el rfl (wpAny_bind (wpAny_letGo ?_)))
  first
    | exact wpAny_bind (wpAny_pure (wpAny_pure ⟨.none, rfl, wpAny_pure h⟩))
    | exact wpAny_pure ⟨.none, rfl, wpAny_pure h⟩
end
def tSplice (K : PySem.W.Frag) (to : TE) (tl th : TO) : TG := fun v σ H Q => to σ H fun o H1 => tl σ H1 fun lo H2 => th σ H2 fun hi H3 => ∃ l b xs ys a c, o = .ref l ∧ v = .ref b ∧ H3 l = some (.lst xs) ∧ SqL K H3 b ys ∧ (l ≠ b ∨ K.lookup b ≠ none) ∧ lo = some a ∧ hi = some c ∧ 0 ≤ a ∧ a ≤ c ∧
  xs.length + ys.length ≤ sizeLine ∧ Q σ (upd H3 l (.lst (xs.take a.toNat ++ ys ++ xs.drop c.toNat)))
section
variable {X : Cx} {o : Expr} {lo hi : Option Expr} {p2 pos : Pos}
theorem pg_splice {to : TE} {tl th : TO} (ho : PE X o to) (hl : PO X lo tl) (hh : PO X hi th) : PG X (.Subscript o (.Slice lo hi none p2) pos) (tSplice X.K to tl th) := by
  refine ⟨fun pins s σ H v u Q I r h => ?_⟩
  show wpAny _ _ (do
    let ov ← holding [u] (eval o X.env)
    let iv ← holding [u, ov] (eval (.Slice lo hi none p2) X.env)
    standAt pos
    holding [u, ov, iv] (setItem ov iv u)
    release [iv, u, ov] []) _ _ s
  refine wpAny_bind (wpAny_holding (thn (ho.run pins s σ H _ I h) fun ov s1 got => ?_))
  obtain ⟨x, H1, I1, r1, q1⟩ := got
  refine wpAny_bind (wpAny_holding ?_)
  refine wpAny_Slice (thn (hl.run pins s1 σ H1 _ I1 q1) fun vl s2 got => ?_)
  obtain ⟨lo', H2, I2, pl, q2⟩ := got
  refine thn (hh.run pins s2 σ H2 _ I2 q2) fun vu s3 got => ?_
  obtain ⟨hi', H3, I3, pu, l, b, xs, ys, a, c, rfl, rfl, hH, hB, ne, rfl, rfl, h0, hac, fits, q⟩ := got
  rw [evalPart_none]
  cases r1
  cases r
  have I4 : Inv X pins σ H3 { s3 with heap := s3.heap.push { cls := .type "slice", data := .fields #[vl, vu, .none] } } := I3.kept (t' := s3.toks) fun b ob q => Heap.get?_push_of_some _ q
  have ne : l ≠ b := by
    rcases ne with ne | ne
    · exact ne
    · intro z
      subst z
      cases hk : X.K.lookup l with
      | none => exact ne hk
      | some ok =>
        have := (I4.bs l ok (I4.ok.mod.kin l ok hk)).2
        rw [hH] at this
        cases this
  obtain ⟨z, its, n, rl, lenl, el⟩ := I4.lstM hH
  obtain ⟨itb, rb, ⟨ob, n2, eb, cb, _, db⟩, _⟩ := I4.list hB
  refine wpAny_pure ?_
  refine wpAny_bind (wpAny_standAt (wpAny_bind (wpAny_holding ?_)))
  have lenb := rb.length
  refine splice_store el eb cb db ne (Heap.IsSliceOf.new _ vl vu .none) pl pu h0 hac (by rw [List.size_toArray, List.size_toArray]; omega) ?_
  refine wpAny_release ⟨σ, _, I4.lset (its' := its.take a.toNat ++ itb ++ its.drop c.toNat) (t' := s3.toks) hH el ?_ (Vals.append (Vals.append (rl.take _) rb) (rl.drop _)) ?_, q⟩
  · show _ = _
    have e1 : its.take (min a.toNat its.length) = its.take a.toNat := by
      by_cases z : a.toNat ≤ its.length
      · rw [Nat.min_eq_left z]
      · rw [Nat.min_eq_right (by omega), List.take_of_length_le (Nat.le_refl _), List.take_of_length_le (by omega)]
    have e2 : its.drop (min c.toNat its.length) = its.drop c.toNat := by
      by_cases z : c.toNat ≤ its.length
      · rw [Nat.min_eq_left z]
      · rw [Nat.min_eq_right (by omega), List.drop_eq_nil_of_le (Nat.le_refl _), List.drop_eq_nil_of_le (by omega)]
    have e3 := splice_eq its itb (min a.toNat its.length) (min c.toNat its.length)
    rw [e1, e2] at e3
    simp only [List.size_toArray] at e3 ⊢
    exact e3
  · rw [List.length_append, List.length_append, List.length_take, List.length_drop]
    omega
def gSplice (i : Nat) (ml mh : MO) : MG := fun d fm => match d with
  | .list es => match fm[i]? with
    | some (some (.own _)) => match ml fm with
      | some (some a, fm1) => match mh fm1 with
        | some (some c, fm2) => match fm2[i]? with
          | some (some (.own (.lst xs))) => if 0 ≤ a ∧ a ≤ c ∧ xs.length + es.length ≤ sizeLine then some (fm2.set i (some (.own (.lst (xs.take a.toNat ++ es ++ xs.drop c.toNat))))) else none
          | _ => none
        | _ => none
      | _ => none
    | _ => none
  | _ => none
theorem sg_splice {ro : List Nat} {i : Nat} {x : Str} {p1 : Pos} {ml mh : MO} (hN : X.N[i]? = some x) (hv : Vis X.env.scope x) (hd : (x == ("__debug__" : Str)) = false) (hcd : (x == ("__classdict__" : Str)) = false) (hl : SO X lo ml) (hh : SO X hi mh) :
    SG X (Dq X.K) ro (.Subscript (.Name x p1) (.Slice lo hi none p2) pos) (gSplice i ml mh) :=
  pg_le (pg_splice (pe_var hN hv hd hcd) hl hh) fun v σ H Q ⟨F, fm, d, fm', R, D, em, q⟩ => by
    unfold gSplice at em
    split at em
    · rename_i es
      cases D with
      | @lst b ys _ sb rb =>
        split at em
        · rename_i cl hi'
          obtain ⟨p, hy, hf, hc⟩ := R.own i cl hi'
          split at em
          · rename_i a fm1 e1
            split at em
            · rename_i c fm2 e2
              split at em
              · rename_i xs h1
                split at em
                · rename_i hk
                  cases em
                  refine ⟨.ref p, hy, F, fm, _, fm1, R, e1, fun F1 H1 A1 => ⟨F1, fm1, _, fm2, A1.rel, e2, fun F2 H2 A2 => ?_⟩⟩
                  have A := A1.trans A2
                  obtain ⟨p', vs, e, hs', hp, r⟩ := A.rel.ownL h1 hy
                  cases e
                  have rb' := dpAll_mono A.ext.same rb
                  have fp : F2 p = none := by
                    obtain ⟨p'', h3, h4, _⟩ := A.rel.own i _ h1
                    rw [hy] at h3; cases h3; exact h4
                  refine ⟨p, b, vs, ys, a, c, rfl, rfl, hp, A.rel.sub.seq (A.ext.same.seq sb), ?_, rfl, rfl, hk.1, hk.2.1, by rw [dpAll_len r, dpAll_len rb]; exact hk.2.2, ?_⟩
                  · rcases sb with (sb | ⟨o, sb⟩) | ⟨o, its, n, hkk, _⟩
                    · exact .inl fun z => by subst z; rw [hf] at sb; cases sb
                    · exact .inl fun z => by subst z; rw [hf] at sb; cases sb
                    · exact .inr (by rw [hkk]; exact fun z => nomatch z)
                  · exact q σ F2 _ (A.trans (Aft.write A.rel h1 hs' (dpAll_app (dpAll_app (dpAll_take _ r) rb') (dpAll_drop _ r)))).s
                · cases em
              · cases em
            · cases em
          · cases em
        · cases em
    · cases em
end
end Rf

namespace Rf
open PySem PySem.Spec PyProof.Rows L2
section
variable {P : Program} {w : World} {A : Around} {E : Value → Shared → Prop} {s : Shared}
abbrev nS (w : World) : Obj := { cls := .type "set", dict := none, data := .set #[] 0 (.fresh 0 0 (!w.params.followText "set-order")) }
theorem call_setL {l : Addr} {xs : Array Value} (ns : List Int) {Q : Value → Shared → Prop} (hh : A.handled = none) (hL : s.heap.IsList l xs) (hI : IntsAre xs.toList ns) (hB : ns.length + 1 < scanBound)
    (K : ∀ (g : Heap) (tk c : Nat), SetR w g s.heap.objs.size (fun j => decide (j ∈ ns)) c → c ≤ ns.length → (∀ b o, s.heap.get? b = some o → g.get? b = some o) → Q (.ref s.heap.objs.size) { s with heap := g, toks := tk }) :
    wpAny (model P w) A (call (.type "set") [.ref l]) Q E s := by
  have hxs : xs.size = ns.length := by have q := IntsAre.length hI; rwa [Array.length_toList] at q
  obtain ⟨mc, mt, hmro⟩ := F.called_set.mro
  have f1 := F.called_set.made
  have f2 := F.called_set.sub
  refine wpAny_call (codeAny_of_tree (show wpAny _ _ (callAny (.type "set") _) _ _ _ from ?_))
  refine wpAny_pure ⟨Code.quiet_builtin _ (by decide +kernel), codeAny_builtin F.entry_type_call (show _ from ?_)⟩
  rw [Around.under_plain (weight_type_call_type "set" [.ref l] []) (by rfl)]
  have f3 := F.called_set.notType
  have f4 := F.called_set.canCreate
  have f5 := F.typeCall_set_1 (.ref l)
  repeat any_goals (first | assumption | wp_step)
  refine codeAny_mono (code_set_led1 (.ref l) (E := E) (Q₁ := fun v u => v = .ref s.heap.objs.size ∧ u = { s with heap := s.heap.push (nS w) }) ⟨rfl, rfl⟩) fun y u hy => ?_
  cases y with
  | error e => exact hy
  | ok fl =>
    cases fl with
    | ret obj =>
      obtain ⟨rfl, rfl⟩ := hy
      have g0 : (s.heap.push (nS w)).get? s.heap.objs.size = some (nS w) := Heap.get?_push_size _ rfl
      have g1 : Shared.TypeIs { s with heap := s.heap.push (nS w) } (.ref s.heap.objs.size) "set" := ⟨_, g0, rfl⟩
      have f6 := F.called_set.init.lookup
      have f7 := F.called_set.init.bind (.ref s.heap.objs.size)
      repeat any_goals (first | assumption | wp_step)
      refine codeAny_mono (codeAny_call_builtin (R := wants (fun v u => v = .none ∧ ∃ g tk c, u = { s with heap := g, toks := tk } ∧ SetR w g s.heap.objs.size (fun j => decide (j ∈ ns)) c ∧ c ≤ ns.length ∧ ∀ b o, s.heap.get? b = some o → g.get? b = some o) E) F.called_set.init.plain F.entry_set_init (check_set_init_1 g1 ?_)) fun y2 u2 hy2 => ?_
      · obtain ⟨ob, hob, hcl, nn, hdt⟩ := hL
        obtain ⟨bc, bd, bdt, bs⟩ := ob
        simp only at hcl hdt
        subst hcl; subst hdt
        have g2 : (s.heap.push (nS w)).get? l = some { cls := .type "list", dict := bd, data := .seq xs nn, slots := bs } := Heap.get?_push_of_some _ hob
        have f8 := F.sub_list_set
        have f9 := F.sub_list_frozenset
        have f10 : (Value.type "list" == Value.type "dict") = false := by decide
        have g3 : (s.heap.push (nS w)).IsList l xs := ⟨_, g2, rfl, nn, rfl⟩
        unfold Builtin.«set.__init__» noKeywords Builtin.Frozenset.updateFrom
        generalize hp : pyIter = pp
        wp_walk
        subst hp
        refine wpAny_pyIter_list g3 (wpAny_bind (wpAny_runValue ?_))
        have lt : l < s.heap.objs.size := Heap.lt_size hob
        have hd : A.in1.in1.in1.handled = none := by simp [hh]
        have z1 : (s.heap.push (nS w)).objs.size = s.heap.objs.size + 1 := Heap.size_push ..
        have n1 : l ≠ (s.heap.push (nS w)).objs.size := by rw [z1]; exact Nat.ne_of_lt (by exact Nat.lt_succ_of_lt lt)
        have n2 : s.heap.objs.size ∉ [(s.heap.push (nS w)).objs.size, l] := by
          rw [z1]
          intro m
          rcases List.mem_cons.1 m with m | m
          · exact absurd m (Nat.ne_of_lt (Nat.lt_succ_self _))
          · exact absurd (List.mem_singleton.1 m) (Nat.ne_of_gt lt)
        have val : ∀ (i : Nat) (v : Value), xs[i]? = some v → ∃ k t, ns[i]? = some k ∧ v = .int k t := fun i v hv => by
          have hi : i < ns.length := by rw [← hxs]; exact (Array.getElem?_eq_some_iff.mp hv).1
          obtain ⟨t, e⟩ := PyProof.Rows.IntsAre.int_at hI i v (by rw [Array.getElem?_toList]; exact hv)
          exact ⟨ns[i], t, List.getElem?_eq_getElem hi, by rw [e, List.getD_eq_getElem?_getD, List.getElem?_eq_getElem hi] <;> rfl⟩
        refine set_update_ints ((Walks.list hd _ l n1 xs).toS) s.heap.objs.size n2 ns hxs hB val (xs.size - 0) 0 _ (by omega) (Nat.zero_le _) ⟨⟨_, Heap.get?_push_size _ rfl, rfl, rfl⟩, (g3.push _)⟩ ?hA1 ?hB1
        case hA1 => exact ⟨0, Nat.le_refl 0, setR_new_at (Heap.get?_push_of_some _ g0)⟩
        case hB1 =>
          intro u c hm hc hS
          obtain ⟨g, gg, dd, tk, oo⟩ := u
          obtain rfl : gg = s.gens := hm.gens
          obtain rfl : dd = s.drawn := hm.drawn
          obtain rfl : oo = s.os := hm.os
          show wpAny _ _ _ _ _ _
          refine wpAny_pure (show wpAny _ _ (ret Value.none) _ _ _ from ?_)
          rw [hxs] at hc
          refine wpAny_pure ⟨rfl, g, tk, c, rfl, hS, hc, fun b o e => ?_⟩
          have lb := Heap.lt_size e
          refine hm.heap b o (fun m => ?_) (Heap.get?_push_of_some _ (Heap.get?_push_of_some _ e))
          rcases List.mem_cons.1 m with m | m
          · exact absurd m (Nat.ne_of_lt lb)
          · rw [z1] at m
            exact absurd (List.mem_singleton.1 m) (Nat.ne_of_lt (Nat.lt_succ_of_lt lb))
      · cases y2 with
        | error e => exact hy2
        | ok f2 =>
          cases f2 with
          | ret r =>
            obtain ⟨rfl, g, tk, c, rfl, hS, hc, hk⟩ := hy2
            repeat any_goals (first | assumption | wp_step)
            exact K _ _ _ hS hc hk
          | _ => exact hy2.elim
    | _ => exact hy.elim
end
end Rf

namespace Rf
open PySem PySem.Spec PyProof.Rows L2

def insU (x : Int) : List Int → List Int
  | [] => [x]
  | y :: ys => if x < y then x :: y :: ys else if x = y then y :: ys else y :: insU x ys
def sortU (ns : List Int) : List Int := ns.foldr insU []
theorem insU_mem {x z : Int} : ∀ {l : List Int}, z ∈ insU x l ↔ z = x ∨ z ∈ l
  | [] => by simp [insU]
  | y :: ys => by
    unfold insU
    split
    · simp
    · split
      · rename_i e; subst e; simp
      · rw [List.mem_cons, List.mem_cons, insU_mem]
        constructor
        · rintro (h | h | h)
          · exact .inr (.inl h)
          · exact .inl h
          · exact .inr (.inr h)
        · rintro (h | h | h)
          · exact .inr (.inl h)
          · exact .inl h
          · exact .inr (.inr h)
theorem insU_pair {x : Int} : ∀ {l : List Int}, l.Pairwise (· < ·) → (insU x l).Pairwise (· < ·)
  | [], _ => by simp [insU]
  | y :: ys, h => by
    obtain ⟨h1, h2⟩ := List.pairwise_cons.mp h
    unfold insU
    split
    · rename_i e
      refine List.pairwise_cons.mpr ⟨fun z hz => ?_, h⟩
      rcases List.mem_cons.mp hz with rfl | hz
      · exact e
      · have := h1 z hz; omega
    · split
      · exact h
      · refine List.pairwise_cons.mpr ⟨fun z hz => ?_, insU_pair h2⟩
        rcases insU_mem.mp hz with rfl | hz
        · omega
        · exact h1 z hz
theorem sortU_mem {z : Int} : ∀ {ns : List Int}, z ∈ sortU ns ↔ z ∈ ns
  | [] => by simp [sortU]
  | n :: ns => by
    show z ∈ insU n (sortU ns) ↔ _
    rw [insU_mem, sortU_mem, List.mem_cons]
theorem sortU_pair : ∀ (ns : List Int), (sortU ns).Pairwise (· < ·)
  | [] => .nil
  | n :: ns => insU_pair (sortU_pair ns)
theorem pair_uniq : ∀ {l m : List Int}, l.Pairwise (· < ·) → m.Pairwise (· < ·) → (∀ z, z ∈ l ↔ z ∈ m) → l = m
  | [], [], _, _, _ => rfl
  | [], y :: m, _, _, h => by have := (h y).mpr (by simp); simp at this
  | x :: l, [], _, _, h => by have := (h x).mp (by simp); simp at this
  | x :: l, y :: m, hl, hm, h => by
    obtain ⟨a1, a2⟩ := List.pairwise_cons.mp hl
    obtain ⟨b1, b2⟩ := List.pairwise_cons.mp hm
    have e : x = y := by
      have hx := (h x).mp (by simp)
      have hy := (h y).mpr (by simp)
      rcases List.mem_cons.mp hx with e | hx
      · exact e
      · rcases List.mem_cons.mp hy with e | hy
        · exact e.symm
        · have := a1 y hy; have := b1 x hx; omega
    subst e
    congr 1
    refine pair_uniq a2 b2 fun z => ⟨fun hz => ?_, fun hz => ?_⟩
    · have ne := a1 z hz
      rcases List.mem_cons.mp ((h z).mp (by simp [hz])) with e | hz'
      · omega
      · exact hz'
    · have ne := b1 z hz
      rcases List.mem_cons.mp ((h z).mpr (by simp [hz])) with e | hz'
      · omega
      · exact hz'
section
variable {X : Cx} {K : PySem.W.Frag}
def rSetT (K : PySem.W.Frag) (w : World) : List V → Hp → VK → Prop := fun vs H Q => ∃ (p : Addr) (ns : List Int), vs = [.ref p] ∧ (SqT K H p (ns.map V.int) ∨ SqL K H p (ns.map V.int)) ∧ ns.length < 64 ∧ ∀ (a : Addr) (c : Nat), H a = none → c ≤ ns.length → Q (.ref a) (upd H a (SetO w a (fun j => decide (j ∈ ns)) c))
theorem cr_setT (hc : X.calm = true) : CallR X (.type "set") (rSetT X.K X.w) := by
  intro pins s σ H vs us Q I r h
  obtain ⟨p, ns, rfl, hq, hl, q⟩ := h
  rw [Vals.ref1 r]
  rcases hq with hq | hq
  · obtain ⟨its, rv, pt, hz⟩ := I.tuple hq
    have hi : IntsAre its.toArray.toList ns := by simpa using rv.ints
    refine call_set_tupI ns (I.ok.hd hc) (show s.heap.IsTuple p its.toArray from pt) hi (by unfold scanBound; omega) fun h' tk c R hcn k => ?_
    exact ⟨.ref s.heap.objs.size, _, I.laid (t' := tk) k (Nat.le_refl _) (setO_new R), rfl, q _ c (I.hok.fresh (Nat.le_refl _)) hcn⟩
  · obtain ⟨its, rv, ⟨o, n, e, hcl, _, hdt⟩, hz⟩ := I.list hq
    have hi : IntsAre its.toArray.toList ns := by simpa using rv.ints
    refine call_setL ns (I.ok.hd hc) (show s.heap.IsList p its.toArray from ⟨o, e, hcl, n, hdt⟩) hi (by unfold scanBound; omega) fun h' tk c R hcn k => ?_
    exact ⟨.ref s.heap.objs.size, _, I.laid (t' := tk) k (Nat.le_refl _) (setO_new R), rfl, q _ c (I.hok.fresh (Nat.le_refl _)) hcn⟩
def mSortSet (m : ME) : ME := fun fm => match m fm with
  | some (v, fm1) => match peek v fm1 with
    | some (.tuple ds) => match intsD ds with
      | some ns => if ns.length < 64 then some (.fre (.lst ((sortU ns).map .int)), fm1) else none
      | none => none
    | some (.list ds) => match intsD ds with
      | some ns => if ns.length < 64 then some (.fre (.lst ((sortU ns).map .int)), fm1) else none
      | none => none
    | _ => none
  | none => none
theorem se_sortSet {e : Expr} {m : ME} {p pos p1 pos1 : Pos} (hc : X.calm = true) (hg : Gl X "sorted") (hm : X.mg "sorted" = none) (hg1 : Gl X "set") (hm1 : X.mg "set" = none) (he : SE X e m) (hs : isStar e = false) :
    SE X (.Call (.Name "sorted" p) [.Call (.Name "set" p1) [e] [] pos1] [] pos) (mSortSet m) := by
  have s1 : starEach [e] X.env = (false, eval e X.env) :: starEach [] X.env := star_cons hs
  refine pe_le (pe_callB (cr_sortedSet hc) hg hm boot_sorted (pa_cons (pe_callTy (cr_setT hc) hg1 hm1 PyProof.Rows.boot_set (pa_cons he pa_nil s1) (by decide) (by decide) s1) pa_nil)) fun σ H Q h => ?_
  obtain ⟨F, fm, v, fm', R, em, q⟩ := h
  unfold mSortSet at em
  split at em
  · rename_i w fm1 e1
    split at em
    · rename_i ds hd
      split at em
      · rename_i ns hn
        split at em
        · rename_i h64
          cases em
          refine ⟨F, fm, w, _, R, e1, fun x F1 H1 A1 V1 N1 => ?_⟩
          obtain ⟨a, ys, rfl, s1, r1⟩ := peek_tup A1.rel V1 hd
          have e := intsD_eq hn
          subst e
          have e := dq_ints r1
          subst e
          refine ⟨a, ns, rfl, .inl s1.1, h64, fun b c hb hcn => ⟨b, _, c, rfl, upd_same, by omega, fun ms p' hp hmem _ hfree => ?_⟩⟩
          have A2 := A1.trans (Aft.lay (o := SetO X.w b (fun j => decide (j ∈ ns)) c) A1.rel hb)
          have e : ms = sortU ns := pair_uniq hp (sortU_pair ns) fun z => by rw [hmem, sortU_mem]; simp
          subst e
          exact q _ F1 _ (A2.trans (Aft.lay A2.rel hfree)) (Aft.newL A2.rel hfree (ints_dq _)) (A2.new (VNew.ref hfree))
        · cases em
      · cases em
    · rename_i ds hd
      split at em
      · rename_i ns hn
        split at em
        · rename_i h64
          cases em
          refine ⟨F, fm, w, _, R, e1, fun x F1 H1 A1 V1 N1 => ?_⟩
          obtain ⟨a, ys, rfl, s1, r1⟩ := peek_list A1.rel V1 hd
          have e := intsD_eq hn
          subst e
          have e := dq_ints r1
          subst e
          refine ⟨a, ns, rfl, .inr s1, h64, fun b c hb hcn => ⟨b, _, c, rfl, upd_same, by omega, fun ms p' hp hmem _ hfree => ?_⟩⟩
          have A2 := A1.trans (Aft.lay (o := SetO X.w b (fun j => decide (j ∈ ns)) c) A1.rel hb)
          have e : ms = sortU ns := pair_uniq hp (sortU_pair ns) fun z => by rw [hmem, sortU_mem]; simp
          subst e
          exact q _ F1 _ (A2.trans (Aft.lay A2.rel hfree)) (Aft.newL A2.rel hfree (ints_dq _)) (A2.new (VNew.ref hfree))
        · cases em
      · cases em
    · cases em
  · cases em
def rRepP (K : PySem.W.Frag) : R2 := fun x y H Q => ∃ l k xs, x = .ref l ∧ y = .int k ∧ SqT K H l xs ∧ xs ≠ [] ∧ 2 ≤ k ∧ k ≤ 1000 ∧ xs.length ≤ 1000 ∧ rNewP (List.replicate k.toNat xs).flatten H Q
theorem op_repP : OpR X (binaryOp .Mult) (rRepP X.K) := by
  intro pins s σ H x y v u Q I rx ry h
  obtain ⟨l, k, xs, rfl, rfl, hT, ne, k2, k3, small, q⟩ := h
  cases rx
  obtain ⟨t, rfl⟩ := ry
  obtain ⟨its, r, ⟨⟨cls, dd, data, sl⟩, ho, hc, n, hd⟩, _⟩ := I.tuple hT
  simp only at hc hd
  subst hc hd
  have el : its.length = xs.length := r.length.symm
  have nonempty : its.toArray.isEmpty = false := by
    cases its with
    | nil => exact absurd (List.eq_nil_of_length_eq_zero (by simpa using el.symm)) ne
    | cons _ _ => rfl
  have size : its.toArray.size = xs.length := by rw [List.size_toArray, el]
  have flen : (List.replicate k.toNat its).flatten.length ≤ sizeLine := by
    rw [PyProof.Rows.lm_len_rep_flat, el, sizeLine_eq]
    have := Nat.mul_le_mul (show k.toNat ≤ 1000 by omega) small
    omega
  have flenV : (List.replicate k.toNat xs).flatten.length ≤ sizeLine := by
    rw [PyProof.Rows.lm_len_rep_flat, sizeLine_eq]
    have := Nat.mul_le_mul (show k.toNat ≤ 1000 by omega) small
    omega
  have bound : ((its.toArray.size : Nat) : Int) * k ≤ 1000000 := by
    rw [size]
    have := Int.mul_le_mul_of_nonneg_right (show ((xs.length : Nat) : Int) ≤ 1000 by omega) (show 0 ≤ k by omega)
    omega
  have c0 : (decide (k < -(2 ^ 63)) || decide (k ≥ 2 ^ 63)) = false := by rw [decide_eq_false (by omega), decide_eq_false (by omega)] <;> rfl
  have c1 : (its.toArray.isEmpty || k == 1) = false := by rw [nonempty, Bool.false_or]; exact beq_eq_false_iff_ne.mpr (by omega)
  have c2 : (decide (k ≤ 0) || its.toArray.isEmpty) = false := by rw [nonempty, Bool.or_false]; exact decide_eq_false (by omega)
  have c4 : Builtin.Tuple.tupleTooMany (((its.toArray.size : Nat) : Int) * k) = false := by unfold Builtin.Tuple.tupleTooMany; rw [sizeLine_eq]; exact decide_eq_false (by omega)
  have meets := tuple_mulW l its.toArray n dd sl k t c0 c1 c2 (by omega) c4 (by rw [size_rep, List.size_toArray]; exact flen)
  refine wpAny_binaryOp_repeat_ref (T := "tuple") (U := "int") (by decide) ⟨_, ho, rfl⟩ (fun s' => typeIs_int s' k t) noFill_tuple_mul F.fills_int_mul F.slot_int_rmul repeat_tuple F.slot_int_index.lookup (call_meets F.slot_int_rmul (typeIs_int s k t) F.entry_int_rmul (F.args_int_rmul_2 _ _) (int_rmul_tuple k t l its.toArray n dd sl) ⟨ho, rfl, ⟨_, ho, rfl⟩, call_meets F.slot_tuple_mul ⟨_, ho, rfl⟩ F.entry_tuple_mul (F.args_tuple_mul_2 _ _) meets ⟨ho, ?_⟩⟩)
  rw [size_rep]
  exact ⟨.ref s.heap.objs.size, _, inv_newP (t' := s.toks) I (r.rep k.toNat) flenV rfl, rfl, q _ _ (I.hok.fresh (Nat.le_refl _)) rfl⟩
theorem tup_mul1 (l : Addr) (its : Array Value) (n : Nat) (dd : Option Addr) (sl : Array (Option Value)) (u : Tok) :
    Meets (Builtin.«tuple.__mul__» ⟨[.ref l, .int 1 u], []⟩) (fun _ R s => s.heap.get? l = some { cls := .type "tuple", dict := dd, data := .seq its n, slots := sl } ∧ R (.ok (.ret (.ref l))) s) :=
  .of_wp fun prog w A R s h => by
    obtain ⟨hp, gs, dr, tk, os⟩ := s
    obtain ⟨hl, h⟩ := h
    have f1 := AutoSeq1.idx_int
    wp_walk using wpAny_loadPart' hl
    exact ⟨_, rfl, h⟩
def rRep1 (K : PySem.W.Frag) : R2 := fun x y H Q => ∃ l xs, x = .ref l ∧ y = .int 1 ∧ SqT K H l xs ∧ Q (.ref l) H
theorem op_rep1 : OpR X (binaryOp .Mult) (rRep1 X.K) := by
  intro pins s σ H x y v u Q I rx ry h
  obtain ⟨l, xs, rfl, rfl, hT, q⟩ := h
  cases rx
  obtain ⟨t, rfl⟩ := ry
  obtain ⟨its, r, ⟨⟨cls, dd, data, sl⟩, ho, hc, n, hd⟩, _⟩ := I.tuple hT
  simp only at hc hd
  subst hc hd
  refine wpAny_binaryOp_repeat_ref (T := "tuple") (U := "int") (by decide) ⟨_, ho, rfl⟩ (fun s' => typeIs_int s' 1 t) noFill_tuple_mul F.fills_int_mul F.slot_int_rmul repeat_tuple F.slot_int_index.lookup (call_meets F.slot_int_rmul (typeIs_int s 1 t) F.entry_int_rmul (F.args_int_rmul_2 _ _) (int_rmul_tuple 1 t l its.toArray n dd sl) ⟨ho, rfl, ⟨_, ho, rfl⟩, call_meets F.slot_tuple_mul ⟨_, ho, rfl⟩ F.entry_tuple_mul (F.args_tuple_mul_2 _ _) (tup_mul1 l its.toArray n dd sl t) ⟨ho, ?_⟩⟩)
  exact ⟨.ref l, H, I, rfl, q⟩
def fMulY : F2 := fun va vb fm => match peek va fm, peek vb fm with
  | some (.tuple ds), some (.int k) => if k = 1 then some (.dat (.tuple ds), fm) else if ds ≠ [] ∧ 2 ≤ k ∧ k ≤ 1000 ∧ ds.length ≤ 1000 then some (.dat (.tuple (repD k ds)), fm) else none
  | _, _ => fMulX va vb fm
theorem p_mulY : Prim2 K (fun x y H Q => rRep1 K x y H Q ∨ rRepP K x y H Q ∨ rMulX K x y H Q) fMulY := by
  intro F H σ fm fm' va vb x y v R Va Vb h Q q
  unfold fMulY at h
  split at h
  · rename_i ds k h1 h2
    split at h
    · rename_i hk
      subst hk
      cases h
      obtain ⟨a, ys, rfl, s1, r1⟩ := peek_tup R Va h1
      exact .inl ⟨a, ys, rfl, peek_int R Vb h2, s1.1, q _ F H (Aft.refl R) (peek_flat R Va h1 (fun _ e => nomatch e)) VNew.dat⟩
    refine .inr ?_
    split at h
    · rename_i hc
      cases h
      obtain ⟨a, ys, rfl, s1, r1⟩ := peek_tup R Va h1
      refine .inl ⟨a, k, ys, rfl, peek_int R Vb h2, s1.1, fun e => hc.1 ?_, hc.2.1, hc.2.2.1, by rw [dpAll_len r1]; exact hc.2.2.2, fun p o hp hd => ?_⟩
      · subst e; cases r1; rfl
      · exact q _ _ _ (Aft.layF R hp) (Aft.newT R hp hd (dpAll_rep r1 _)) VNew.dat
    · cases h
  · exact .inr (.inr (p_mulX F H σ fm fm' va vb x y v R Va Vb h Q q))
end
end Rf

namespace Rf
open PySem PySem.Spec PyProof.Rows L2

section
variable {X : Cx} {K : PySem.W.Frag}
theorem paired_of {α β : Type} {F : α → β → Prop} : ∀ {l : List α} {m : List β}, l.length = m.length → (∀ (i : Nat) (a : α) (b : β), l[i]? = some a → m[i]? = some b → F a b) → Paired F l m
  | [], [], _, _ => .nil
  | a :: l, b :: m, hl, h => .cons (h 0 a b rfl rfl) (paired_of (by simpa using hl) fun i x y e1 e2 => h (i + 1) x y (by simpa using e1) (by simpa using e2))
  | [], _ :: _, hl, _ => by simp at hl
  | _ :: _, [], hl, _ => by simp at hl
def intsV (lo : Int) (n : Nat) : List V := (List.range n).map fun k => V.int (lo + (k : Nat))
def rTupR : List V → Hp → VK → Prop := fun vs H Q => ∃ (p : Addr) (lo hi : Int), vs = [.ref p] ∧ H p = some (.rng lo hi) ∧ 0 ≤ lo ∧ lo ≤ hi ∧ hi < 100000 ∧ rNewP (intsV lo (hi - lo).toNat) H Q
theorem cr_tupR (hc : X.calm = true) : CallR X (.type "tuple") rTupR := by
  intro pins s σ H vs us Q I r h
  obtain ⟨p, lo, hi, rfl, hp, h0, h1, h2, q⟩ := h
  rw [Vals.ref1 r]
  obtain ⟨t, u, v, hr⟩ := I.hok p _ hp
  have size : Builtin.Range.rangeSize lo hi 1 = hi - lo := by
    unfold Builtin.Range.rangeSize
    rw [if_pos (by decide)]
    split
    · rw [Int.ediv_one]; omega
    · omega
  have fits : ∀ x : Int, 0 ≤ x → x < 200000 → Builtin.Range.rangeFitsLong x = true := fun x g1 g2 => by
    unfold Builtin.Range.rangeFitsLong
    simp
    omega
  have small : Builtin.Range.small lo hi 1 = true := by
    unfold Builtin.Range.small
    rw [size, fits lo h0 (by omega), fits hi (by omega) (by omega), fits 1 (by omega) (by omega), fits (hi - lo) (by omega) (by omega), if_pos (by decide), fits (hi + (1 - 1)) (by omega) (by omega)]
    simp
  have len : Builtin.Range.rangeSize lo hi 1 = ((hi - lo).toNat : Nat) := by rw [size]; omega
  refine call_tuple_range (I.ok.hd hc) hr small len (by omega) fun h' tk acc hk hacc => ?_
  have J : Inv X pins σ H { s with heap := h', toks := tk } := I.kept (t' := tk) hk
  obtain ⟨e1, e2⟩ := hacc
  have rv : Vals (intsV lo (hi - lo).toNat) acc.toList := by
    refine paired_of (by simp [intsV]; omega) fun i a b ha hb => ?_
    have hlt : i < (hi - lo).toNat := by
      have := (List.getElem?_eq_some_iff.mp ha).1
      simpa [intsV] using this
    have ea : a = V.int (lo + (i : Nat)) := by
      have : (intsV lo (hi - lo).toNat)[i]? = some (V.int (lo + (i : Nat))) := by simp [intsV, hlt]
      rw [this] at ha
      exact (Option.some.inj ha).symm
    subst ea
    obtain ⟨t', e⟩ := e2 i b (by rw [← Array.getElem?_toList]; exact hb)
    rw [Int.mul_one] at e
    exact ⟨t', e⟩
  exact ⟨.ref h'.objs.size, _, inv_newP (t' := tk) J rv (by simp [intsV, sizeLine_eq]; omega) (by simp), rfl, q _ _ (J.hok.fresh (Nat.le_refl _)) rfl⟩
def mTupRan (ma : MA) : ME := fun fm => match ma fm with
  | some ([.dat (.int a), .dat (.int b)], fm1) => if 0 ≤ a ∧ a ≤ b ∧ b < 100000 then some (.dat (.tuple (intsFrom a (b - a).toNat)), fm1) else none
  | _ => none
theorem intsV_dq {F : Hp} {lo : Int} {n : Nat} : DqAll K F (intsV lo n) (intsFrom lo n) := by
  unfold intsV intsFrom
  generalize List.range n = l
  induction l with
  | nil => exact .nil
  | cons i l ih => exact .cons (.int _) ih
theorem se_tupRan {a b : Expr} {m : MA} {p pos p1 pos1 : Pos} (hc : X.calm = true) (hg : Gl X "tuple") (hm : X.mg "tuple" = none) (hg1 : Gl X "range") (hm1 : X.mg "range" = none) (he : SA X [a, b] m) (hs : isStar a = false) (hs2 : isStar b = false) :
    SE X (.Call (.Name "tuple" p) [.Call (.Name "range" p1) [a, b] [] pos1] [] pos) (mTupRan m) := by
  refine pe_le (pe_callTy (cr_tupR hc) hg hm PyProof.Rows.boot_tuple (pa_cons (pe_callTy cr_range2 hg1 hm1 boot_range he (by decide) (by decide) (star_cons hs) (back_plain (by simp [noStars, hs2]))) pa_nil)) fun σ H Q h => ?_
  obtain ⟨F, fm, v, fm', R, em, q⟩ := h
  unfold mTupRan at em
  split at em
  · rename_i i j fm1 e1
    split at em
    · rename_i hk
      cases em
      refine ⟨F, fm, _, _, R, e1, fun xs F1 H1 A V N => ?_⟩
      obtain ⟨x, y, rfl, V1, V2⟩ := vsrel2 V
      have e := dpint V1
      subst e
      have e := dpint V2
      subst e
      refine ⟨i, j, rfl, fun r hr => ⟨r, i, j, rfl, upd_same, hk.1, hk.2.1, hk.2.2, fun t o ht hd => ?_⟩⟩
      have A2 := A.trans (Aft.lay (o := HO.rng i j) A.rel hr)
      exact q _ _ _ (A2.trans (Aft.layF A2.rel ht)) (Aft.newT A2.rel ht hd intsV_dq) VNew.dat
    · cases em
  · cases em
end
end Rf

namespace Rf
open PySem PySem.Spec PyProof.Rows L2
def okFind (ds : List PyData) (d : PyData) : Bool := PyData.plainAll ds && d.plain && decide (d.depth ≤ 40)
def rCnt (K : PySem.W.Frag) (T : Bool) : V → List V → Hp → VK → Prop := fun x xs H Q => ∃ (w : V) (ds : List PyData) (d : PyData), xs = [w] ∧ Dp K H x (if T = true then .tuple ds else .list ds) ∧ Dp K H w d ∧ okFind ds d = true ∧ Q (.int ((ds.countP fun y => PyData.eqv y d : Nat) : Int)) H
def fCnt (T : Bool) : FM := fun o vs fm => match vs with
  | [w] => match peek o fm, peek w fm with
    | some e, some d => match e, T with
      | .tuple ds, true => if okFind ds d then some (.dat (.int ((ds.countP fun y => PyData.eqv y d : Nat) : Int)), fm) else none
      | .list ds, false => if okFind ds d then some (.dat (.int ((ds.countP fun y => PyData.eqv y d : Nat) : Int)), fm) else none
      | _, _ => none
    | _, _ => none
  | _ => none
def rFindL (K : PySem.W.Frag) : V → List V → Hp → VK → Prop := fun x xs H Q => ∃ (a : Addr) (ys : List V) (w : V) (ds : List PyData) (d : PyData) (j : Nat), x = .ref a ∧ xs = [w] ∧ SqL K H a ys ∧ Dp K H x (.list ds) ∧ Dp K H w d ∧ okFind ds d = true ∧ SeqAt.dataPlace ds d = some j ∧ Q (.int (j : Int)) H
def fFindL : FM := fun o vs fm => match vs with
  | [w] => match peek o fm, peek w fm with
    | some (.list ds), some d => if okFind ds d then (match SeqAt.dataPlace ds d with
      | some j => some (.dat (.int (j : Int)), fm)
      | none => none) else none
    | _, _ => none
  | _ => none
section
variable {X : Cx} {K : PySem.W.Frag}
theorem p_cnt {T : Bool} : PrimM K (rCnt K T) (fCnt T) := by
  intro F H σ fm fm' o ws x xs v R V D h Q q
  unfold fCnt at h
  split at h
  · rename_i w
    obtain ⟨y, rfl, Vy⟩ := vsrel1 D
    split at h
    · rename_i e d he hd
      split at h
      · rename_i ds
        split at h
        · rename_i ok
          cases h
          exact ⟨y, ds, d, rfl, (peek_dp R V he).dp, (peek_dp R Vy hd).dp, ok, q _ F H (Aft.refl R) (.int _) VNew.dat⟩
        · cases h
      · rename_i ds
        split at h
        · rename_i ok
          cases h
          exact ⟨y, ds, d, rfl, (peek_dp R V he).dp, (peek_dp R Vy hd).dp, ok, q _ F H (Aft.refl R) (.int _) VNew.dat⟩
        · cases h
      · cases h
    · cases h
  · cases h
theorem p_findL : PrimM K (rFindL K) fFindL := by
  intro F H σ fm fm' o ws x xs v R V D h Q q
  unfold fFindL at h
  split at h
  · rename_i w
    obtain ⟨y, rfl, Vy⟩ := vsrel1 D
    split at h
    · rename_i ds d he hd
      split at h
      · rename_i ok
        split at h
        · rename_i j hj
          cases h
          obtain ⟨a, ys, rfl, s1, r1⟩ := peek_list R V he
          exact ⟨a, ys, y, ds, d, j, rfl, rfl, s1, (peek_dp R V he).dp, (peek_dp R Vy hd).dp, ok, hj, q _ F H (Aft.refl R) (.int _) VNew.dat⟩
        · cases h
      · cases h
    · cases h
  · cases h
theorem mt_cntL (hu : X.A.units + 65 < cLine) : MtR X "list.count" (rCnt X.K false) := by
  intro pins s σ H x xs v us Q I rx rs h
  obtain ⟨w, ds, d, rfl, h1, h2, ok, q⟩ := h
  obtain ⟨u, rfl, ru⟩ := vals1 rs
  obtain ⟨as, r1⟩ := Dp.reads I _ x v h1 rx
  obtain ⟨bs, r2⟩ := Dp.reads I d w u h2 ru
  unfold okFind at ok
  simp only [Bool.and_eq_true, decide_eq_true_eq] at ok
  cases r1 with
  | list ho hc hd ra =>
    exact SeqAt.count_list_data ⟨_, ho, hc, _, hd⟩ ra r2 ok.1.1 ok.1.2 (by have := Nat.min_le_right (PyData.depthAll ds) d.depth; omega) ⟨.int _, H, I.tok _, ⟨_, rfl⟩, q⟩
theorem mt_cntT (hu : X.A.units + 65 < cLine) : MtR X "tuple.count" (rCnt X.K true) := by
  intro pins s σ H x xs v us Q I rx rs h
  obtain ⟨w, ds, d, rfl, h1, h2, ok, q⟩ := h
  obtain ⟨u, rfl, ru⟩ := vals1 rs
  obtain ⟨as, r1⟩ := Dp.reads I _ x v h1 rx
  obtain ⟨bs, r2⟩ := Dp.reads I d w u h2 ru
  unfold okFind at ok
  simp only [Bool.and_eq_true, decide_eq_true_eq] at ok
  cases r1 with
  | tuple ho hc hd ra =>
    exact SeqAt.count_tuple_data ⟨_, ho, hc, _, hd⟩ ra r2 ok.1.1 ok.1.2 (by have := Nat.min_le_right (PyData.depthAll ds) d.depth; omega) ⟨.int _, H, I.tok _, ⟨_, rfl⟩, q⟩
theorem mt_findL (hu : X.A.units + 65 < cLine) : MtR X "list.index" (rFindL X.K) := by
  intro pins s σ H x xs v us Q I rx rs h
  obtain ⟨a, ys, w, ds, d, j, rfl, rfl, hs, h1, h2, ok, hj, q⟩ := h
  obtain ⟨u, rfl, ru⟩ := vals1 rs
  obtain ⟨as, r1⟩ := Dp.reads I _ _ v h1 rx
  obtain ⟨bs, r2⟩ := Dp.reads I d w u h2 ru
  obtain ⟨its, rr, pl, hz⟩ := I.list hs
  cases rx
  unfold okFind at ok
  simp only [Bool.and_eq_true, decide_eq_true_eq] at ok
  cases r1 with
  | list ho hc hd ra =>
    rename_i o vs n as'
    obtain ⟨cls, dd, data, sl⟩ := o
    simp only at hc hd
    subst hc hd
    obtain ⟨hjl, e1, e2⟩ := SeqAt.hit_at ra ok.1.1 hj
    have hlen : vs.size ≤ sizeLine := by
      obtain ⟨⟨cls', dd', data', sl'⟩, n', ho', hc', _, hd'⟩ := pl
      rw [ho] at ho'
      cases ho'
      cases hd'
      rw [List.size_toArray, ← rr.length]; exact hz
    rw [sizeLine_eq] at hlen
    exact call_meets PySem.F.slot_list_index ⟨_, ho, rfl⟩ PySem.F.entry_list_index (PySem.F.args_list_index_2 _ _) (SeqAt.list_indexAt a vs n dd sl u (fun y => PyData.eqv (SeqAt.readOf s.heap y) d) j hjl (by omega) e1 e2)
      ⟨ho, SeqAt.items_plain ra r2 ok.1.1 ok.1.2 (by have := Nat.min_le_right (PyData.depthAll ds) d.depth; omega), ⟨.int _, H, I.tok _, ⟨_, rfl⟩, q⟩⟩
def mLstRan (m : ME) : ME := fun fm => match m fm with
  | some (.dat (.int n), fm1) => if 0 ≤ n ∧ n < 100000 then some (.fre (.lst (intsFrom 0 n.toNat)), fm1) else none
  | _ => none
theorem se_lstRan {a : Expr} {m : ME} {p pos p1 pos1 : Pos} (hc : X.calm = true) (hg : Gl X "list") (hm : X.mg "list" = none) (hg1 : Gl X "range") (hm1 : X.mg "range" = none) (he : SE X a m) (hs : isStar a = false) :
    SE X (.Call (.Name "list" p) [.Call (.Name "range" p1) [a] [] pos1] [] pos) (mLstRan m) := by
  refine pe_le (pe_listRg hc hg hm (prg_1 hg1 hm1 he (star_cons hs))) fun σ H Q h => ?_
  obtain ⟨F, fm, v, fm', R, em, q⟩ := h
  unfold mLstRan at em
  split at em
  · rename_i n fm1 e1
    split at em
    · rename_i hk
      cases em
      refine ⟨F, fm, _, _, R, e1, fun x F1 H1 A V N => ⟨n, dpint V, RgOk.of_le (by omega) (by omega) (by omega) (by omega), fun r hr => ?_⟩⟩
      have e : rgV 0 n = intsV 0 n.toNat := by unfold rgV intsV; rw [Int.sub_zero]
      rw [e]
      exact q _ F1 _ (A.trans (Aft.lay A.rel hr)) (Aft.newL A.rel hr intsV_dq) (VNew.ref (A.ext.grow r hr))
    · cases em
  · cases em
end
end Rf

namespace Rf
open PySem PySem.Spec PyProof.Rows L2
abbrev MAX := Fm → Option ((Xc ⊕ List SV) × Fm)
def mNilX : MAX := fun fm => some (.inr [], fm)
def mConsX (ma : ME) (mr : MAX) : MAX := fun fm => match ma fm with
  | some (.thr x, fm1) => some (.inl x, fm1)
  | some (v, fm1) => match mr fm1 with
    | some (.inr vs, fm2) => some (.inr (v :: vs), fm2)
    | some (.inl x, fm2) => some (.inl x, fm2)
    | none => none
  | none => none
def mLstX (m : MAX) : ME := fun fm => match m fm with
  | some (.inl x, fm1) => some (.thr x, fm1)
  | some (.inr vs, fm1) => match frzAll vs fm1 with
    | some (ds, fm2) => if ds.length ≤ sizeLine then some (.fre (.lst ds), fm2) else none
    | none => none
  | none => none
def tAX (K : PySem.W.Frag) (W : WX) (m : MAX) : TA := fun σ H Q => ∃ F fm r fm', Rel K F H σ fm ∧ m fm = some (r, fm') ∧
  (∀ vs, r = .inr vs → ∀ xs F' H', Aft K σ F H fm F' H' fm' → VsRel K F' H' σ fm' vs xs → VsNew H vs xs → Q xs H') ∧ ∀ xc, r = .inl xc → ∀ cls d F' H', Aft K σ F H fm F' H' fm' → XRel K F' H' xc cls d → XNew H d → W cls d σ H'
def SAX (X : Cx) (es : List Expr) (m : MAX) : Prop := ∀ W, Takes X W → PA X es (tAX X.K W m)
theorem sax_nil {X : Cx} : SAX X [] mNilX := fun W tk => pa_le pa_nil fun σ H Q ⟨F, fm, r, fm', R, em, q, qx⟩ => by
  cases em
  exact q [] rfl [] F H (Aft.refl R) .nil .nil
theorem sax_cons {X : Cx} {e : Expr} {es : List Expr} {ma : ME} {mr : MAX} (ha : SX X e ma) (hr : SAX X es mr) (hs : starEach (e :: es) X.env = (false, eval e X.env) :: starEach es X.env := by rfl) : SAX X (e :: es) (mConsX ma mr) := fun W tk =>
  pa_le (pa_cons (ha W tk) (hr W tk) hs) fun σ H Q ⟨F, fm, r, fm', R, em, q, qx⟩ => by
    unfold mConsX at em
    split at em
    · rename_i x fm1 e1
      cases em
      exact ⟨F, fm, .thr x, _, R, e1, fun y F' H' A V N => V.elim, fun xc e cls d F' H' A xr xn => qx x rfl cls d F' H' A (by cases e; exact xr) xn⟩
    · rename_i v fm1 hv e1
      split at em
      · rename_i vs fm2 e2
        cases em
        refine ⟨F, fm, v, fm1, R, e1, fun x F1 H1 A1 V1 N1 => ⟨F1, fm1, .inr vs, _, A1.rel, e2, fun us eu xs F2 H2 A2 V2 N2 => ?_, fun xc e => nomatch e⟩, fun xc e => absurd e (hv xc)⟩
        cases eu
        refine q (v :: vs) rfl (x :: xs) F2 H2 (A1.trans A2) (.cons (A2.val V1) V2 fun c ec j c' ej z => ?_) (.cons N1 (N2.back A1.ext))
        subst ec
        obtain ⟨p, rfl, hf, hc, hl⟩ := V1
        obtain ⟨o, ho⟩ := hc.some'
        have := N2.get ej z p rfl
        rw [ho] at this; cases this
      · rename_i x fm2 e2
        cases em
        exact ⟨F, fm, v, fm1, R, e1, fun y F1 H1 A1 V1 N1 => ⟨F1, fm1, .inl x, _, A1.rel, e2, fun us eu => (nomatch eu), fun xc e cls d F2 H2 A2 xr xn => qx x rfl cls d F2 H2 (A1.trans A2) (by cases e; exact xr) (xn.back A1.ext)⟩, fun xc e => absurd e (hv xc)⟩
      · cases em
    · cases em
theorem sx_lst {X : Cx} {es : List Expr} {pos : Pos} {m : MAX} (h : SAX X es m) : SX X (.List es pos) (mLstX m) := fun W tk =>
  pe_le (pe_lst (h W tk)) fun σ H Q ⟨F, fm, v, fm', R, em, q, qx⟩ => by
    unfold mLstX at em
    split at em
    · rename_i x fm1 e1
      cases em
      exact ⟨F, fm, .inl x, _, R, e1, fun us eu => (nomatch eu), fun xc e cls d F' H' A xr xn => qx x rfl cls d F' H' A (by cases e; exact xr) xn⟩
    · rename_i vs fm1 e1
      split at em
      · rename_i ds fm2 e2
        split at em
        · rename_i hl
          cases em
          refine ⟨F, fm, .inr vs, fm1, R, e1, fun us eu xs F1 H1 A1 V1 N1 => ?_, fun xc e => nomatch e⟩
          cases eu
          obtain ⟨F2, A2, D2⟩ := aft_frzAll A1 V1 N1 e2
          refine ⟨by rw [dpAll_len D2]; exact hl, fun p hp => ?_⟩
          exact q _ F2 _ (A2.trans (Aft.lay A2.rel hp)) (Aft.newL A2.rel hp D2) (VNew.ref (A2.ext.grow p hp))
        · cases em
      · cases em
    · cases em
end Rf

namespace Rf
open PySem PySem.Spec PyProof.Rows L2
theorem nodup_eq_len {l m : List Int} (h1 : l.Nodup) (h2 : m.Nodup) (h : ∀ x, x ∈ l ↔ x ∈ m) : l.length = m.length :=
  ((List.perm_ext_iff_of_nodup h1 h2).2 h).length_eq
section
variable {X : Cx}
def rLenO (w : World) : List V → Hp → VK → Prop := fun vs H Q => ∃ (a : Addr) (c : Nat) (ns : List Int), vs = [.ref a] ∧ H a = some (SetO w a (fun j => decide (j ∈ ns)) c) ∧ Q (.int ((sortU ns).length : Nat)) H
theorem cr_lenO : CallR X (.builtin "len") (rLenO X.w) := by
  intro pins s σ H vs us Q I r h
  obtain ⟨a, c, ns, rfl, ha, q⟩ := h
  rw [Vals.ref1 r]
  obtain ⟨o, es, ep, t, ho, hex, hd, g, nd, hm, hb, hf, hn, _⟩ := setO_get I ha
  have e1 : es.size = (sortU ns).length := by
    have e2 : (es.toList.map keyOf).length = (sortU ns).length := nodup_eq_len nd ((sortU_pair ns).imp fun h => by omega) fun k => by
      rw [← hm, sortU_mem]; simp
    rw [List.length_map, Array.length_toList] at e2
    exact e2
  refine call_len_set ho hex hd hf (by unfold scanBound at hb; omega) ⟨.int ((sortU ns).length : Nat), H, I.tok _, ⟨_, by rw [e1]⟩, q⟩
def mLenSet (m : ME) : ME := fun fm => match m fm with
  | some (v, fm1) => match peek v fm1 with
    | some d => match seqD d with
      | some ds => match intsD ds with
        | some ns => if ns.length < 64 then some (.dat (.int ((sortU ns).length : Nat)), fm1) else none
        | none => none
      | none => none
    | none => none
  | none => none
theorem se_lenSet {e : Expr} {m : ME} {p pos p1 pos1 : Pos} (hc : X.calm = true) (hg : Gl X "len") (hm : X.mg "len" = none) (hg1 : Gl X "set") (hm1 : X.mg "set" = none) (he : SE X e m) (hs : isStar e = false) :
    SE X (.Call (.Name "len" p) [.Call (.Name "set" p1) [e] [] pos1] [] pos) (mLenSet m) := by
  have s1 : starEach [e] X.env = (false, eval e X.env) :: starEach [] X.env := star_cons hs
  refine pe_le (pe_callB cr_lenO hg hm boot_len (pa_cons (pe_callTy (cr_setT hc) hg1 hm1 PyProof.Rows.boot_set (pa_cons he pa_nil s1) (by decide) (by decide) s1) pa_nil)) fun σ H Q h => ?_
  obtain ⟨F, fm, v, fm', R, em, q⟩ := h
  unfold mLenSet at em
  split at em
  · rename_i w fm1 e1
    split at em
    · rename_i d hd
      split at em
      · rename_i ds hq
        split at em
        · rename_i ns hn
          split at em
          · rename_i h64
            cases em
            refine ⟨F, fm, w, _, R, e1, fun x F1 H1 A1 V1 N1 => ?_⟩
            have e := intsD_eq hn
            subst e
            have fin : ∀ (b : Addr) (c : Nat), H1 b = none → c ≤ ns.length → Q (.int ((sortU ns).length : Nat)) (upd H1 b (SetO X.w b (fun j => decide (j ∈ ns)) c)) := fun b c hb hcn =>
              q _ F1 _ (A1.trans (Aft.lay (o := SetO X.w b (fun j => decide (j ∈ ns)) c) A1.rel hb)) (.int _) VNew.dat
            cases d with
            | list ds' =>
              simp only [seqD] at hq
              cases hq
              obtain ⟨a, ys, rfl, s2, r2⟩ := peek_list A1.rel V1 hd
              have e := dq_ints r2
              subst e
              exact ⟨a, ns, rfl, .inr s2, h64, fun b c hb hcn => ⟨b, c, ns, rfl, upd_same, fin b c hb hcn⟩⟩
            | tuple ds' =>
              simp only [seqD] at hq
              cases hq
              obtain ⟨a, ys, rfl, s2, r2⟩ := peek_tup A1.rel V1 hd
              have e := dq_ints r2
              subst e
              exact ⟨a, ns, rfl, .inl s2.1, h64, fun b c hb hcn => ⟨b, c, ns, rfl, upd_same, fin b c hb hcn⟩⟩
            | _ => cases hq
          · cases em
        · cases em
      · cases em
    · cases em
  · cases em
def mMinD (m : ME) : ME := fun fm => match m fm with
  | some (v, fm1) => match peek v fm1 with
    | some d => match seqD d with
      | some ds => match intsD ds with
        | some [] => some (.dat .none, fm1)
        | some (n :: ns) => some (.dat (.int (ns.foldl min n)), fm1)
        | none => none
      | none => none
    | none => none
  | none => none
def rMinD (K : PySem.W.Frag) : List V → Hp → VK → Prop := fun vs H Q => ∃ x d ns, vs = [x] ∧ Dp K H x d ∧ seqD d = some (List.map PyData.int ns) ∧ (ns = [] → Q .non H) ∧ ∀ n r, ns = n :: r → Q (.int (r.foldl min n)) H
theorem run_minD {pins : List (Addr × Obj)} {s : Shared} {σ : L2.St} {H : Hp} {vs : List V} {us : List Value} {Q : VK} (hc : X.calm = true) (hu : X.A.units + 64 < cLine) (I : Inv X pins σ H s) (r : Vals vs us) (h : rMinD X.K vs H Q) :
    wpAny (model X.prog X.w) X.A (call (.builtin "min") us [(Str.ofString "default", .none)]) (EP X pins σ Q) X.xe s := by
  obtain ⟨x, d, ns, rfl, hd, hs, q0, q⟩ := h
  obtain ⟨u, rfl, rx⟩ := vals1 r
  obtain ⟨as, rd⟩ := Dp.reads I d x u hd rx
  have hdp := depth_ints ns
  have f0 : List.map PyData.int ns = [] → ∀ h' tk, (∀ b o, s.heap.get? b = some o → h'.get? b = some o) → EP X pins σ Q .none { s with heap := h', toks := tk } := fun e h' tk hk => ⟨.non, H, I.kept hk, rfl, q0 (by simpa using e)⟩
  have fin : ∀ (y : PyData) (ys : List PyData) (v : Value) (h' : Heap) (tk : Nat) (bs : List Addr), List.map PyData.int ns = y :: ys → Reads h' v (PySem.W.minD y ys) bs → (∀ b o, s.heap.get? b = some o → h'.get? b = some o) → EP X pins σ Q v { s with heap := h', toks := tk } := fun y ys v h' tk bs e rr hk => by
    cases ns with
    | nil => cases e
    | cons n r =>
      cases e
      rw [PySem.W.minD_ints] at rr
      obtain ⟨t, rfl⟩ := reads_int rr
      exact ⟨.int _, H, I.kept hk, ⟨t, rfl⟩, q n r rfl⟩
  cases rd with
  | list h1 h2 h3 h4 =>
    cases hs
    exact PySem.W.min_list_default (I.ok.hd hc) ⟨_, h1, h2, _, h3⟩ h4 (alike_ints ns) (by show _ + PyData.depthAll (ns.map .int) < _; rw [hdp]; omega) f0 fun y ys i v h' tk bs e _ rr hk => fin y ys v h' tk bs e rr hk
  | tuple h1 h2 h3 h4 =>
    cases hs
    exact PySem.W.min_tuple_default (I.ok.hd hc) ⟨_, h1, h2, _, h3⟩ h4 (alike_ints ns) (by show _ + PyData.depthAll (ns.map .int) < _; rw [hdp]; omega) f0 fun y ys i v h' tk bs e _ rr hk => fin y ys v h' tk bs e rr hk
  | _ => cases hs
theorem se_minD {e : Expr} {m : ME} {p pos kp : Pos} {j : Nat} {cp : Pos} (hc : X.calm = true) (hu : X.A.units + 64 < cLine) (hg : Gl X "min") (hm : X.mg "min" = none) (he : SE X e m) (hs : isStar e = false) :
    SE X (.Call (.Name "min" p) [e] [⟨some "default", .Constant .none j cp, kp⟩] pos) (mMinD m) := by
  have s1 : starEach [e] X.env = (false, eval e X.env) :: starEach [] X.env := star_cons hs
  have hpl : (backTo pos (starEach [e] X.env)).any (·.1) = false := back_plain (by unfold noStars; simp [hs])
  refine pe_le (t := fun σ H Q => tCons (tE X.K m) tNil σ H fun vs H1 => rMinD X.K vs H1 Q) ⟨fun pins s σ H Q I h => ?_⟩ fun σ H Q h => ?_
  · refine wpAny_Call_Name_kw (ld_blt I hg hm boot_min ?_)
    refine callWith_kw (thn ((pa_cons he pa_nil s1).run pos pins s σ H _ I h) fun us s2 ⟨vs, H1, I1, r1, q1⟩ => ?_) (by rw [s1]; rfl) hpl
    refine kws_cons (thn ((pe_non (X := X)).run pins s2 σ H1 (fun v H2 => v = .non ∧ H2 = H1) I1 ⟨rfl, rfl⟩) fun v s3 ⟨x, H2, I2, r2, ev, eH⟩ => kws_nil ?_)
    subst ev; subst eH
    cases (show v = .none from r2)
    exact run_minD hc hu I2 r1 q1
  · obtain ⟨F, fm, v, fm', R, em, q⟩ := h
    unfold mMinD at em
    split at em
    · rename_i w fm1 e1
      split at em
      · rename_i d hd
        split at em
        · rename_i ds hq
          split at em
          · rename_i hn
            cases em
            exact ⟨F, fm, w, _, R, e1, fun x F1 H1 A1 V1 N1 => ⟨x, d, [], rfl, (peek_dp A1.rel V1 hd).dp, by rw [hq, intsD_eq hn], fun _ => q _ F1 _ A1 .non VNew.dat, fun n r e => nomatch e⟩⟩
          · rename_i n ns hn
            cases em
            exact ⟨F, fm, w, _, R, e1, fun x F1 H1 A1 V1 N1 => ⟨x, d, n :: ns, rfl, (peek_dp A1.rel V1 hd).dp, by rw [hq, intsD_eq hn], fun e => (nomatch e), fun n' r' e => by cases e; exact q _ F1 _ A1 (.int _) VNew.dat⟩⟩
          · cases em
        · cases em
      · cases em
    · cases em
end
end Rf

namespace Rf
open PySem PySem.Spec PyProof.Rows L2
def pD (p : Int × Int) : PyData := .tuple [.int p.1, .int p.2]
def pairsD : List PyData → Option (List (Int × Int))
  | [] => some []
  | .tuple [.int a, .int b] :: ds => (pairsD ds).map ((a, b) :: ·)
  | _ => none
theorem pairsD_eq : ∀ {ds : List PyData} {ps : List (Int × Int)}, pairsD ds = some ps → ds = ps.map pD
  | [], _, h => by cases h; rfl
  | d :: ds, ps, h => by
    unfold pairsD at h
    split at h
    · rename_i e; cases e
    · rename_i a b ds' e
      cases e
      obtain ⟨qs, h1, rfl⟩ := Option.map_eq_some_iff.mp h
      rw [pairsD_eq h1]; rfl
    · cases h
def ltI (a b : Int × Int) : Bool := decide (a.1 < b.1) || (decide (a.1 = b.1) && decide (a.2 < b.2))
def minI (m : Int × Int) (l : List (Int × Int)) : Int × Int := l.foldl (fun m a => if ltI a m = true then a else m) m
theorem alike_pairs (ps : List (Int × Int)) : PySem.W.AlikeAll (ps.map pD) := by
  refine ⟨fun x hx y hy => ?_, fun x hx => ?_⟩
  · obtain ⟨i, _, rfl⟩ := List.mem_map.mp hx
    obtain ⟨j, _, rfl⟩ := List.mem_map.mp hy
    simp [pD, PySem.W.alike, PySem.W.alikeAll]
  · obtain ⟨i, _, rfl⟩ := List.mem_map.mp hx
    exact fun e => nomatch e
theorem depth_pairs : ∀ ps : List (Int × Int), PyData.depthAll (ps.map pD) ≤ 1
  | [] => by simp [PyData.depthAll]
  | p :: ps => by
    have := depth_pairs ps
    simp only [List.map_cons, PyData.depthAll, pD, PyData.depth]
    simp only [Nat.max_def]
    (repeat' split) <;> omega
theorem eqv_i2 (i j : Int) : PyData.eqv (.int i) (.int j) = decide (i = j) := by simp only [PyData.eqv]; rfl
theorem lt_pair (a b : Int × Int) : PySem.W.dataLt (pD a) (pD b) = ltI a b := by
  unfold pD
  rw [PySem.W.dataLt_tuple, ← PySem.W.firstLt_toks _ _ (by simp [PySem.W.alikeAll, PySem.W.alike])]
  simp [SeqAt.firstLt, PySem.W.dataLt_int, List.range, List.range.loop, ltI, SeqAt.pairEq, eqv_i2]
  by_cases h1 : a.1 = b.1
  · by_cases h2 : a.2 = b.2 <;> simp [h1, h2]
  · simp [h1]
theorem min_pairs : ∀ (ps : List (Int × Int)) (p : Int × Int), PySem.W.minD (pD p) (ps.map pD) = pD (minI p ps)
  | [], _ => rfl
  | q :: ps, p => by
    show PySem.W.minD (if PySem.W.dataLt (pD q) (pD p) then pD q else pD p) (ps.map pD) = pD (minI (if ltI q p = true then q else p) ps)
    rw [lt_pair, ← min_pairs ps]
    cases ltI q p <;> rfl
def rMinP (K : PySem.W.Frag) : List V → Hp → VK → Prop := fun vs H Q => ∃ a ys ds p ps, vs = [.ref a] ∧ SqL K H a ys ∧ DpAll K H ys ds ∧ ds = (p :: ps).map pD ∧ ∀ (i : Nat) (z : V), ys[i]? = some z → ds[i]? = some (pD (minI p ps)) → Q z H
def fMinP : FA := fun vs fm => match vs with
  | [v] => match peek v fm with
    | some (.list ds) => match pairsD ds with
      | some (p :: ps) => some (.dat (pD (minI p ps)), fm)
      | _ => none
    | _ => none
  | _ => none
section
variable {X : Cx} {K : PySem.W.Frag}
theorem p_minP : PrimA K (rMinP K) fMinP := by
  intro F H σ fm fm' vs xs v R Vs h Q q
  unfold fMinP at h
  split at h
  · obtain ⟨y, rfl, V⟩ := vsrel1 Vs
    split at h
    · rename_i ds h1
      split at h
      · rename_i p ps hb
        cases h
        obtain ⟨a, ys, rfl, hs, r⟩ := peek_list R V h1
        refine ⟨a, ys, ds, p, ps, rfl, hs, (dpAll_mono R.sub r).dp, pairsD_eq hb, fun i z hz hd => ?_⟩
        obtain ⟨z', h3, h4⟩ := dpAll_get r hd
        rw [hz] at h3
        cases h3
        exact q _ F H (Aft.refl R) h4 VNew.dat
      · cases h
    · cases h
  · cases h
theorem call_minP (hc : X.calm = true) (hu : X.A.units + 64 < cLine) : CallR X (.builtin "min") (rMinP X.K) := by
  intro pins s σ H vs us Q I r h
  obtain ⟨a, ys, ds, p, ps, rfl, hq, hd, rfl, q⟩ := h
  obtain ⟨u, rfl, rx⟩ := vals1 r
  cases rx
  obtain ⟨its, r', pl, hz⟩ := I.list hq
  obtain ⟨as, ra⟩ := Dp.readsAll I _ ys its hd r'
  have hdp := depth_pairs (p :: ps)
  refine PySem.W.min_list_data (x := pD p) (xs := ps.map pD) (I.ok.hd hc) pl.isList ra (alike_pairs (p :: ps)) (by show _ + PyData.depthAll ((p :: ps).map pD) < _; omega) fun i v h' tk bs hi rr hk => ?_
  have hi' : its[i]? = some v := by simpa using hi
  obtain ⟨bs2, r2, hlt, hm, _⟩ := PySem.W.readsAll_at ra i v hi'
  have e := (Reads.unique (PySem.W.reads_keeps hk r2) _ _ rr).1
  rw [min_pairs] at e
  have hl := r'.length
  have hi2 : i < its.length := (List.getElem?_eq_some_iff.mp hi').1
  obtain ⟨u, h1, h2⟩ := r'.get (i := i) (x := ys[i]'(by omega)) (List.getElem?_eq_getElem (by omega))
  rw [hi'] at h1
  cases h1
  refine ⟨_, H, I.kept hk, h2, q i _ (List.getElem?_eq_getElem (by omega)) ?_⟩
  rw [← e, List.getElem?_eq_getElem hlt, List.getD_eq_getElem?_getD, List.getElem?_eq_getElem hlt]
  rfl
def fMinX : FA := fun vs fm => match fBest min vs fm with
  | some r => some r
  | none => fMinP vs fm
theorem p_minX : PrimA K (fun vs H Q => rBest K min vs H Q ∨ rMinP K vs H Q) fMinX := by
  intro F H σ fm fm' vs xs v R Vs h Q q
  unfold fMinX at h
  split at h
  · rename_i r hr
    cases h
    exact .inl (p_best F H σ fm fm' vs xs v R Vs hr Q q)
  · exact .inr (p_minP F H σ fm fm' vs xs v R Vs h Q q)
theorem call_minB (hc : X.calm = true) (hu : X.A.units + 64 < cLine) : CallR X (.builtin "min") (fun vs H Q => rBest X.K min vs H Q ∨ rMinP X.K vs H Q) := by
  intro pins s σ H vs us Q I r h
  rcases h with h | h
  · exact call_minX hc hu pins s σ H vs us Q I r h
  · exact call_minP hc hu pins s σ H vs us Q I r h
end
end Rf

namespace Rf
open PySem PySem.Spec PyProof.Rows L2
def mTru (m : ME) : MT := fun fm => match m fm with
  | some (.dat (.bool b), fm1) => some (b, fm1)
  | some (v, fm1) => match peek v fm1 with
    | some (.list ds) => some (!ds.isEmpty, fm1)
    | _ => none
  | none => none
theorem tT_tru {K : PySem.W.Frag} {m : ME} {σ : L2.St} {H : Hp} {Q : Bool → Hp → Prop} (h : tT K (mTru m) σ H Q) : tE K m σ H fun x H1 => ∃ k, TruV K x H1 k ∧ Q k H1 := by
  obtain ⟨F, fm, k, fm', R, em, q⟩ := h
  unfold mTru at em
  split at em
  · rename_i b fm1 e
    cases em
    refine ⟨F, fm, _, fm', R, e, fun x F' H' A V N => ?_⟩
    cases (show Dq K F' x (.bool k) from V)
    exact ⟨k, rfl, q F' H' A⟩
  · rename_i v fm1 _ e
    split at em
    · rename_i ds hp
      cases em
      refine ⟨F, fm, _, fm', R, e, fun x F' H' A V N => ?_⟩
      obtain ⟨a, vs, rfl, hs, r⟩ := peek_list A.rel V hp
      refine ⟨!vs.isEmpty, .inl ⟨vs, hs, rfl⟩, ?_⟩
      have hl := dpAll_len r
      have : vs.isEmpty = ds.isEmpty := by cases vs <;> cases ds <;> simp at hl <;> rfl
      rw [this]
      exact q F' H' A
    · cases em
  · cases em
theorem st_tru {X : Cx} {e : Expr} {m : ME} (h : SE X e m) (he : ∀ whole, isTrue e X.env whole = (do let v ← whole; standAt e.pos; holding [v] (truthy v)) := by intro _; rfl) : ST X e (mTru m) :=
  pt_le (pt_truth h he) fun σ H Q h => tT_tru h
end Rf

namespace Rf
open PySem PySem.Spec PyProof.Rows L2
def zip3 : List PyData → List PyData → List PyData → List PyData
  | a :: as, b :: bs, c :: cs => .tuple [a, b, c] :: zip3 as bs cs
  | _, _, _ => []
theorem zip3_get : ∀ {as bs cs : List PyData} {i : Nat} {d : PyData}, (zip3 as bs cs)[i]? = some d → ∃ a b c, as[i]? = some a ∧ bs[i]? = some b ∧ cs[i]? = some c ∧ d = .tuple [a, b, c]
  | a :: as, b :: bs, c :: cs, 0, d, h => ⟨a, b, c, rfl, rfl, rfl, by simpa [zip3] using h.symm⟩
  | a :: as, b :: bs, c :: cs, i + 1, d, h => by
    obtain ⟨x, y, z, h1, h2, h3, h4⟩ := zip3_get (as := as) (bs := bs) (cs := cs) (i := i) (d := d) (by simpa [zip3] using h)
    exact ⟨x, y, z, by simpa using h1, by simpa using h2, by simpa using h3, h4⟩
  | [], _, _, _, _, h => by simp [zip3] at h
  | _ :: _, [], _, _, _, h => by simp [zip3] at h
  | _ :: _, _ :: _, [], _, _, h => by simp [zip3] at h
theorem zip3_len : ∀ {as bs cs : List PyData}, (zip3 as bs cs).length = min (min as.length bs.length) cs.length
  | a :: as, b :: bs, c :: cs => by simp [zip3, zip3_len]
  | [], _, _ => by simp [zip3]
  | _ :: _, [], _ => by simp [zip3]
  | _ :: _, _ :: _, [] => by simp [zip3]
section
variable {K : PySem.W.Frag} {F F' G H H' : Hp}
theorem sqK_mono {k : Bool} {a : Addr} {xs : List V} (e : Same F F') (h : SqK K k F a xs) : SqK K k F' a xs := by
  cases k
  · exact e.seq h
  · exact sqT_mono e h
theorem itok_zip3 {k1 k2 k3 : Bool} {a b c : Addr} {vs us ws : List V} {ds es fs : List PyData} (hq : SqK K k1 F a vs) (hp : SqK K k2 F b us) (ho : SqK K k3 F c ws) (r : DqAll K F vs ds) (t : DqAll K F us es) (l : DqAll K F ws fs) : ItOk (Dw K) F (Itz3 K k1 k2 k3 a b c) (zip3 ds es fs) where
  go := fun i H s h => by
    rw [zip3_len] at h
    obtain ⟨x, hx⟩ := get_lt (l := vs) (i := i) (by rw [dpAll_len r]; omega)
    obtain ⟨y, hy⟩ := get_lt (l := us) (i := i) (by rw [dpAll_len t]; omega)
    obtain ⟨z, hz⟩ := get_lt (l := ws) (i := i) (by rw [dpAll_len l]; omega)
    exact ⟨vs, us, ws, x, y, z, sqK_mono s hq, sqK_mono s hp, sqK_mono s ho, hx, hy, hz⟩
  stop := fun H s => ⟨vs, us, ws, sqK_mono s hq, sqK_mono s hp, sqK_mono s ho, by rw [zip3_len, dpAll_len r]; omega, by rw [zip3_len, dpAll_len t]; omega, by rw [zip3_len, dpAll_len l]; omega, by rw [zip3_len, dpAll_len r, dpAll_len t, dpAll_len l]; omega⟩
  yld := fun i d Fc H x H' hd s1 s2 y => by
    obtain ⟨T, y, z, o, rfl, hT, rfl, hy, hz, hw⟩ := y
    obtain ⟨e, e2, e3, he, he2, he3, rfl⟩ := zip3_get hd
    obtain ⟨v, h1, h2⟩ := dpAll_get r he
    obtain ⟨u, h3, h4⟩ := dpAll_get t he2
    obtain ⟨w, h5, h6⟩ := dpAll_get l he3
    have e := hy vs (sqK_mono (s1.trans s2) hq)
    rw [h1] at e; cases e
    have e := hz us (sqK_mono (s1.trans s2) hp)
    rw [h3] at e; cases e
    have e := hw ws (sqK_mono (s1.trans s2) ho)
    rw [h5] at e; cases e
    have g : Grow Fc H _ _ := Grow.one (o := .tup [y, z, o]) s2 hT
    exact ⟨_, g, .inr ⟨_, _, _, rfl, rfl, SqT.of upd_same, .cons (dp_mono (s1.trans g.same) h2) (.cons (dp_mono (s1.trans g.same) h4) (.cons (dp_mono (s1.trans g.same) h6) .nil))⟩⟩
theorem sqK_of {F H : Hp} {x : V} {d : PyData} {ds : List PyData} (s : Same F H) (h : Dq K F x d) (e : seqD d = some ds) : ∃ k a xs, x = .ref a ∧ SqK K k H a xs ∧ SqK K k F a xs ∧ DqAll K F xs ds := by
  cases h with
  | lst hq r => cases e; exact ⟨false, _, _, rfl, s.seq hq, hq, r⟩
  | tup hq r => cases e; exact ⟨true, _, _, rfl, sqT_mono s hq.1, hq.1, r⟩
  | _ => cases e
end
def iZp3 (m : MA) : MI := fun fm => match m fm with
  | some (vs, fm1) => match frzAll vs fm1 with
    | some ([d1, d2, d3], fm2) => match seqD d1, seqD d2, seqD d3 with
      | some ds, some es, some fs => some (zip3 ds es fs, fm2)
      | _, _, _ => none
    | _ => none
  | _ => none
theorem si_zip3 {X : Cx} {a b c : Expr} {elts : List Expr} {kk : Nat} {tpos p1 pos : Pos} {m : MA} (hg : Gl X "zip") (hm : X.mg "zip" = none) (ha : SA X [a, b, c] m) (hs : starEach [a, b, c] X.env = (false, eval a X.env) :: starEach [b, c] X.env := by rfl) (hpl : (backTo pos (starEach [b, c] X.env)).any (·.1) = false := by rfl) : SI X (Dw X.K) (.Tuple elts kk tpos) (.Call (.Name "zip" p1) [a, b, c] [] pos) (iZp3 m) :=
  pi_le (pi_zip3 hg hm ha hs hpl) fun σ H R ⟨F, fm, ds, fm', rel, em, q⟩ => by
    unfold iZp3 at em
    split at em
    · rename_i vs fm1 e1
      refine ⟨F, fm, _, fm1, rel, e1, fun xs F1 H1 A V N => ?_⟩
      split at em
      · rename_i d1 d2 d3 fm2 e2
        split at em
        · rename_i ds' es' fs' q1 q2 q3
          cases em
          obtain ⟨F2, A2, D2⟩ := aft_frzAll A V N e2
          cases D2 with
          | cons c1 r =>
            cases r with
            | cons c2 r =>
              cases r with
              | cons c3 r =>
                cases r
                obtain ⟨k1, a1, xs1, rfl, s1, t1, r1⟩ := sqK_of A2.rel.sub c1 q1
                obtain ⟨k2, a2, xs2, rfl, s2, t2, r2⟩ := sqK_of A2.rel.sub c2 q2
                obtain ⟨k3, a3, xs3, rfl, s3, t3, r3⟩ := sqK_of A2.rel.sub c3 q3
                exact ⟨k1, k2, k3, _, _, _, _, _, _, rfl, s1, s2, s3, q _ F2 H1 A2 (itok_zip3 t1 t2 t3 r1 r2 r3)⟩
        · cases em
      · cases em
    · cases em
end Rf

namespace Rf
open PySem PySem.Spec PyProof.Rows L2
def mDfl (m : MA) : MA := fun fm => match m fm with
  | some (vs, fm1) => some (vs ++ [.dat (.tuple [])], fm1)
  | none => none
def EmpT (K : PySem.W.Frag) (e : Addr) : Prop := ∃ (o : Obj) (n : Nat), K.lookup e = some o ∧ o.cls = .type "tuple" ∧ o.dict = none ∧ o.data = .seq #[] n
section
variable {K : PySem.W.Frag} {F F' H H' : Hp} {σ : L2.St} {fm : Fm} {e : Addr}
theorem emp_dq (h : EmpT K e) : Dq K F (.ref e) (.tuple []) := by
  obtain ⟨o, n, h1, h2, h3, h4⟩ := h
  exact .tup ⟨.inr ⟨o, #[], n, h1, h2, h4, by decide, .nil⟩, .inr ⟨o, h1, h2, h3⟩⟩ .nil
theorem VsRel.snoc (he : EmpT K e) : ∀ {vs : List SV} {xs : List V}, VsRel K F H σ fm vs xs → VsRel K F H σ fm (vs ++ [.dat (.tuple [])]) (xs ++ [.ref e])
  | _, _, .nil => .cons (emp_dq he) .nil fun c h => nomatch h
  | _, _, .cons (v := v) (x := x) (vs := vs) (xs := xs) h r d => by
    refine .cons h (VsRel.snoc he r) fun c hc j c' hj hx => ?_
    have hj : (vs ++ [SV.dat (PyData.tuple [])])[j]? = some (.fre c') := hj
    have hx : (xs ++ [V.ref e])[j]? = some x := hx
    by_cases hl : j < vs.length
    · have hl2 : j < xs.length := by rw [← r.len]; exact hl
      rw [List.getElem?_append_left hl] at hj
      rw [List.getElem?_append_left hl2] at hx
      exact d c hc j c' hj hx
    · rw [List.getElem?_append_right (by omega)] at hj
      cases hk : j - vs.length with
      | zero => rw [hk] at hj; simp at hj
      | succ k => rw [hk] at hj; simp at hj
theorem VsNew.snoc : ∀ {vs : List SV} {xs : List V}, VsNew H vs xs → VsNew H (vs ++ [.dat (.tuple [])]) (xs ++ [.ref e])
  | _, _, .nil => .cons VNew.dat .nil
  | _, _, .cons h r => .cons h (VsNew.snoc r)
theorem tA_dfl {m : MA} {R : List V → Hp → Prop} (he : EmpT K e) (h : tA K (mDfl m) σ H R) : tA K m σ H fun xs H1 => R (xs ++ [.ref e]) H1 := by
  obtain ⟨F, fm, ws, fm', rel, em, q⟩ := h
  unfold mDfl at em
  split at em
  · rename_i vs fm1 e1
    cases em
    exact ⟨F, fm, vs, _, rel, e1, fun xs F1 H1 A V N => q _ F1 H1 A (V.snoc he) N.snoc⟩
  · cases em
end
section
variable {X : Cx} {k : Nat} {f : Addr} {fd : FuncData} {ps : List Str} {sp : Sp} {x : Str} {p pos : Pos} {e : Expr} {es : List Expr} {E : L2.St → XK}
theorem pe_callGD {t : TA} {e0 : Addr} (F : FnG X.prog X.w X.K X.mg X.base k f fd ps sp) (hr : Room k X.A) (hgd : X.A.guards = some []) (hx : ∀ σ, PassesAt (L2.CX X.prog X.w) X σ (E σ)) (hg : Gl X x) (hm : X.mg x = some (.ref f)) (hk : PySem.W.keepIn X.K (.ref f) = true) (hb : Binds X.K fd ps [.ref e0])
    (ha : PA X (e :: es) t) (hdb : (x == ("__debug__" : Str)) = false) (hs : isStar e = false) (hn : noStars es = true) : PE X (.Call (.Name x p) (e :: es) [] pos) (fun σ H Q => t σ H fun vs H1 => sp (vs ++ [.ref e0]) H1 Q (E σ)) := by
  refine ⟨fun pins s σ H Q I h => wpAny_Call_Name_kw (ld_glob I hg hm ?_ hdb)⟩
  refine PySem.W.callWith_K (h₀ := X.base) I.ok.mod.kin hk (thn (ha.run pos pins s σ H _ I h) fun us s1 out => ?_) (star_cons hs) (back_plain hn)
  obtain ⟨vs, H1, I1, r, q⟩ := out
  have hl : (us ++ [Value.ref e0]).length = ps.length := by rw [List.length_append, ← r.length, ← F.len _ _ _ _ q, List.length_append]; rfl
  have b := hb s1 us I1.kIn hl
  exact ⟨I1.kIn, run_fnG F hr hgd (hx σ) I1 b (r.append (.cons (show RelV (.ref e0) (.ref e0) from rfl) .nil)) q⟩
end
theorem se_con {X : Cx} {x : Str} {pos : Pos} {i : Int} (hg : Gl X x) (hm : ∃ u, X.mg x = some u ∧ RelV (.int i) u) (hd : (x == ("__debug__" : Str)) = false) : SE X (.Name x pos) (mLit (.int i)) := by
  obtain ⟨u, h1, h2⟩ := hm
  refine pe_le (pe_glob hg h1 h2 hd) fun σ H Q ⟨F, fm, v, fm', R, em, q⟩ => ?_
  cases em
  exact q _ F H (Aft.refl R) (.int i) VNew.dat
def mAug (i : Nat) (f : F2) (m : ME) : MS := fun fm => match fm[i]? with
  | some (some (.dat (.int a))) => match m fm with
    | some (vb, fm1) => match f (.dat (.int a)) vb fm1 with
      | some (.dat r, fm2) => some (.nx, fm2.set i (some (.dat r)))
      | _ => none
    | none => none
  | _ => none
def mAugL (i : Nat) (m : ME) : MS := fun fm => match fm[i]? with
  | some (some (.own (.lst _))) => match m fm with
    | some (.fre (.lst es), fm1) => match fm1[i]? with
      | some (some (.own (.lst xs))) => if xs.length + es.length ≤ sizeLine then some (.nx, fm1.set i (some (.own (.lst (xs ++ es))))) else none
      | _ => none
    | _ => none
  | _ => none
def mAugA (i : Nat) (m : ME) : MS := fun fm => match mAug i fAdd m fm with
  | some r => some r
  | none => mAugL i m fm
section
variable {X : Cx} {ro : List Nat} {i : Nat} {x : Str} {e : Expr} {m : ME} {pos pos' : Pos} {op : Operator} {r : R2} {f : F2}
theorem aug_dat {K : PySem.W.Frag} {W : WX} (P : Prim2 K r f) (hro : i ∉ ro) {D : Ends} {σ : L2.St} {H : Hp} (h : tS K W ro (mAug i f m) D σ H) : tAug i (tE K m) r D σ H := by
  obtain ⟨F, fm, fl, fm', R, em, q⟩ := h
  unfold mAug at em
  split at em
  · rename_i a ha
    split at em
    · rename_i vb fm1 e1
      split at em
      · rename_i d fm2 e2
        cases em
        obtain ⟨v, hv, hD⟩ := R.dat i _ ha
        refine ⟨v, hv, F, fm, vb, fm1, R, e1, fun y F1 H1 A1 V1 N1 => ?_⟩
        refine P F1 H1 σ fm1 fm2 _ vb v y _ A1.rel (show VRel K F1 H1 σ fm1 (.dat (.int a)) v from dp_mono A1.ext.same hD) V1 e2 _ fun z F2 H2 A2 V2 N2 => ?_
        obtain ⟨F3, A3⟩ := sto_ok (ro := ro) (fm' := fm2.set i (some (.dat d))) hro (A1.trans A2) V2 VNew.dat rfl
        exact q _ F3 H2 A3
      · cases em
    · cases em
  · cases em
theorem aug_lst {K : PySem.W.Frag} {W : WX} {D : Ends} {σ : L2.St} {H : Hp} (h : tS K W ro (mAugL i m) D σ H) : tAug i (tE K m) rExt2 D σ H := by
  obtain ⟨F, fm, fl, fm', R, em, q⟩ := h
  unfold mAugL at em
  split at em
  · rename_i xs0 hi0
    split at em
    · rename_i es fm1 e1
      split at em
      · rename_i xs hi
        split at em
        · rename_i hl
          cases em
          obtain ⟨v, hv, _⟩ := R.own i _ hi0
          refine ⟨.ref v, hv, F, fm, _, fm1, R, e1, fun y F1 H1 A1 V1 N1 => ?_⟩
          obtain ⟨b, rfl, hf, ⟨us, hb, rb⟩, hn⟩ := V1
          obtain ⟨p, vs, ep, hs, hp, rp⟩ := A1.rel.ownL hi hv
          cases ep
          refine ⟨v, b, vs, us, rfl, rfl, hp, hb, by rw [dpAll_len rp, dpAll_len rb]; exact hl, ?_⟩
          have A2 := A1.trans (Aft.write A1.rel hi hs (dpAll_app rp rb))
          have es' : σ.set i (some (V.ref v)) = σ := List.ext_getElem? fun j => by
            by_cases hj : i = j
            · subst hj; rw [List.getElem?_set_self (List.getElem?_eq_some_iff.1 hv).1, hv]
            · rw [List.getElem?_set_ne hj]
          show D.nx (σ.set i (some (V.ref v))) _
          rw [es']
          exact q σ F1 _ A2.s
        · cases em
      · cases em
    · cases em
  · cases em
theorem ss_aug (hN : X.N.Nodup) (hro : i ∉ ro) (hi : X.N[i]? = some x) (hx : Loc X.env.scope x) (he : SE X e m) (ho : OpR X (inplaceOp op) r) (P : Prim2 X.K r f) (hf : X.fn x = true ∨ X.env.scope.names.lookup x = some .local) : SS X ro (.AugAssign (.Name x pos') op e pos) (mAug i f m) :=
  fun W tk => ps_le (ps_aug (ti := r) hN hi hx he (fun pins s σ H x y v u Q I rx ry q => ho pins s σ H x y v u Q I rx ry q) hf) fun D σ H h => aug_dat P hro h
theorem ss_augA (hN : X.N.Nodup) (hro : i ∉ ro) (hi : X.N[i]? = some x) (hx : Loc X.env.scope x) (he : SE X e m) (hf : X.fn x = true ∨ X.env.scope.names.lookup x = some .local) : SS X ro (.AugAssign (.Name x pos') .Add e pos) (mAugA i m) := by
  intro W tk
  have ho : PIp X .Add (fun x y H Q => rI0 (fun i j => .int (i + j)) x y H Q ∨ rExt2 x y H Q) := fun pins s σ H x y v u Q I rx ry q => q.elim (fun q => iop_add pins s σ H x y v u Q I rx ry q) fun q => iop_ext pins s σ H x y v u Q I rx ry q
  refine ps_le (ps_aug hN hi hx he ho hf) fun D σ H h => ?_
  obtain ⟨F, fm, fl, fm', R, em, q⟩ := h
  unfold mAugA at em
  split at em
  · rename_i rr e1
    cases em
    obtain ⟨v, h1, h2⟩ := aug_dat (m := m) (f := fAdd) (W := W) p_add hro ⟨F, fm, fl, fm', R, e1, q⟩
    obtain ⟨F', fm0, v', fm0', R', e2, q'⟩ := h2
    exact ⟨v, h1, F', fm0, v', fm0', R', e2, fun y F1 H1 A V N => .inl (q' y F1 H1 A V N)⟩
  · obtain ⟨v, h1, h2⟩ := aug_lst (m := m) (W := W) (ro := ro) ⟨F, fm, fl, fm', R, em, q⟩
    obtain ⟨F', fm0, v', fm0', R', e2, q'⟩ := h2
    exact ⟨v, h1, F', fm0, v', fm0', R', e2, fun y F1 H1 A V N => .inr (q' y F1 H1 A V N)⟩
end
end Rf
namespace Rf
open PySem PySem.Spec PyProof.Rows L2
theorem tS_parT {K : PySem.W.Frag} {W : WX} {ro is : List Nat} {m : MA} (hro : ∀ i ∈ is, i ∉ ro) {D : Ends} {σ : L2.St} {H : Hp} (h : tS K W ro (mPar is m) D σ H) : tA K m σ H fun xs H1 => is.length = xs.length ∧ ∀ (p : Addr) (o : HO), H1 p = none → D.nx (setAll σ is xs) (upd H1 p o) := by
  obtain ⟨F, fm, fl, fm', R, em, q⟩ := h
  unfold mPar at em
  split at em
  · rename_i vs fm1 e1
    split at em
    · rename_i ws fm2 e2
      split at em
      · rename_i fm3 e3
        cases em
        refine ⟨F, fm, vs, fm1, R, e1, fun xs F1 H1 A1 V1 N1 => ?_⟩
        obtain ⟨F2, A2, s2, k2, n2, l2, V2, N2, b2⟩ := resAll_ok A1 V1 N1 e2
        obtain ⟨A3, hl⟩ := stoAll_ok hro A2.s V2 N2 b2 e3
        exact ⟨hl, fun p o hp => q _ F2 _ (A3.trans (Aft.lay A3.rel hp).s)⟩
      · cases em
    · cases em
  · cases em
theorem ss_parT {X : Cx} {ro : List Nat} {a b : Expr} {i j : Nat} {x y : Str} {m : MA} {px py pt pos : Pos} {kt k2 pt2} (hc : X.calm = true) (hN : X.N.Nodup) (hi : X.N[i]? = some x) (hj : X.N[j]? = some y)
    (hx : Loc X.env.scope x) (hy : Loc X.env.scope y) (hfx : X.fn x = true ∨ X.env.scope.names.lookup x = some .local) (hfy : X.fn y = true ∨ X.env.scope.names.lookup y = some .local) (hro : ∀ k ∈ [i, j], k ∉ ro) (ha : SA X [a, b] m)
    (hs : swapsWithSole [.Tuple [.Name x px, .Name y py] kt pt] (.Tuple [a, b] k2 pt2) pos.line X.env = pure false) (hw : swappedStores [.Tuple [.Name x px, .Name y py] kt pt] (.Tuple [a, b] k2 pt2) X.env = pure none) :
    SS X ro (.Assign [.Tuple [.Name x px, .Name y py] kt pt] (.Tuple [a, b] k2 pt2) pos) (mPar [i, j] m) :=
  fun W tk => ps_le (ps_asg (pe_tupP ha) (pg_tup (n := 2) hc (pgs_cons (pg_name hN hi hx hfx) (pgs_cons (pg_name hN hj hy hfy) pgs_nil)) rfl rfl) hs hw rfl) fun D σ H h => by
    obtain ⟨F, fm, vs, fm', R, em, q⟩ := tS_parT hro h
    refine ⟨F, fm, vs, fm', R, em, fun xs F' H' A V N => ?_⟩
    obtain ⟨hl, hq⟩ := q xs F' H' A V N
    match xs, hl with
    | [v, w], _ =>
      refine ⟨by show 2 ≤ sizeLine; decide, fun p o hp hd => ⟨p, [v, w], rfl, .inl (.inr ⟨o, upd_same⟩), rfl, ?_⟩⟩
      exact ⟨v, [w], rfl, w, [], rfl, rfl, hq p _ hp⟩
end Rf

namespace Rf
open PySem PySem.Spec PyProof.Rows L2
structure ZipSepN (z TI TO : Addr) (N : Nat) (is : Nat → Addr) (fp : Nat → List Addr) : Prop where
  TIz : TI ≠ z
  TOz : TO ≠ z
  TITO : TI ≠ TO
  TIi : ∀ k, k < N → TI ≠ is k
  mem : ∀ k, k < N → is k ∈ fp k
  zf : ∀ k, k < N → z ∉ fp k
  Tf : ∀ k, k < N → TO ∉ fp k
  sep : ∀ j k, j < N → k < N → j ≠ k → is j ∉ fp k
abbrev IsTupN (h : Heap) (T : Addr) (vs : Array Value) : Prop := h.get? T = some { cls := .type "tuple", data := .seq vs }
section
variable {prog : Program} {w : World} {A : Around} {E : Value → Shared → Prop} {s : Shared} {z TI TO : Addr} {N i : Nat} {is : Nat → Addr} {fp : Nat → List Addr} {n : Nat → Nat} {P : Nat → Nat → Value → Prop} {St : Nat → Nat → Heap → Prop}
end
end Rf

namespace Rf
open PySem PySem.Spec PyProof.Rows L2
def pushL (h : Heap) (os : List Obj) : Heap := os.foldl Heap.push h
theorem pushL_size : ∀ (os : List Obj) (h : Heap), (pushL h os).objs.size = h.objs.size + os.length
  | [], h => rfl
  | o :: os, h => by
    show (pushL (h.push o) os).objs.size = _
    rw [pushL_size os, Heap.size_push, List.length_cons]; omega
theorem pushL_snoc (h : Heap) (os : List Obj) (o : Obj) : pushL h (os ++ [o]) = (pushL h os).push o := by
  unfold pushL
  rw [List.foldl_append]; rfl
theorem pushL_old : ∀ (os : List Obj) (h : Heap) {b : Addr} {u : Obj}, h.get? b = some u → (pushL h os).get? b = some u
  | [], h, b, u, e => e
  | o :: os, h, b, u, e => pushL_old os (h.push o) (Heap.get?_push_of_some _ e)
theorem iterAll_begins {prog : Program} {w : World} {A : Around} {E : Value → Shared → Prop} {s : Shared} {vs : List Value} {os : List Obj} {H : Nat → Heap → Prop} {Q : List Value → Shared → Prop} (hl : os.length = vs.length)
    (B : ∀ (k : Nat) (v : Value) (o : Obj), vs[k]? = some v → os[k]? = some o → Begins v o (H k)) (h : ∀ k, k < vs.length → H k s.heap)
    (hQ : Q ((List.range vs.length).map fun k => Value.ref (s.heap.objs.size + k)) { s with heap := pushL s.heap os }) : wpAny (model prog w) A (Builtin.SmallTypes.iterAll vs) Q E s := by
  obtain ⟨hp, g, d, tk, os'⟩ := s
  unfold Builtin.SmallTypes.iterAll
  refine wpAny_bind (wpAny_forIn_list _ (fun rest b s' => ∃ k, s' = ⟨pushL hp (os.take k), g, d, tk, os'⟩ ∧ rest = vs.drop k ∧ k ≤ vs.length ∧ b.toList = (List.range k).map fun k => Value.ref (hp.objs.size + k)) _ ?turn ?fin _ _ ?init)
  case init => exact ⟨0, rfl, rfl, Nat.zero_le _, rfl⟩
  case turn =>
    rintro x rest b s' ⟨k, rfl, hr, hk, hb⟩
    have hlt : k < vs.length := by
      rcases Nat.lt_or_ge k vs.length with q | q
      · exact q
      · rw [List.drop_of_length_le q] at hr; cases hr
    have hd : vs.drop k = vs[k] :: vs.drop (k + 1) := List.drop_eq_getElem_cons hlt
    rw [hd] at hr
    obtain ⟨e1, e2⟩ := List.cons.inj hr
    have hko : k < os.length := by omega
    have BB := B k vs[k] os[k] (List.getElem?_eq_getElem hlt) (List.getElem?_eq_getElem hko)
    rw [e1]
    refine wpAny_bind (wpAny_holding ?_)
    refine BB.iter prog w _ _ ⟨pushL hp (os.take k), g, d, tk, os'⟩ _ (BB.keeps _ _ (h k hlt) fun b u e => pushL_old _ _ e) ?_
    refine wpAny_pure ⟨k + 1, ?_, e2, hlt, ?_⟩
    · rw [List.take_succ_eq_append_getElem hko, pushL_snoc]
    · rw [Array.toList_push, hb, List.range_succ, List.map_append]
      have : (pushL hp (os.take k)).objs.size = hp.objs.size + k := by rw [pushL_size, List.length_take]; omega
      rw [this]; rfl
  case fin =>
    rintro b s' ⟨k, rfl, hr, hk, hb⟩
    have e : k = vs.length := by
      have := congrArg List.length hr
      simp at this
      omega
    subst e
    refine wpAny_pure ?_
    rw [hb, ← hl, List.take_length, hl]
    exact hQ
end Rf

namespace Rf
open PySem PySem.Spec PyProof.Rows L2
abbrev itsL (h : Heap) (N : Nat) : List Value := (List.range N).map fun k => Value.ref (h.objs.size + k)
abbrev gT (h : Heap) (os : List Obj) : Heap := (pushL h os).push { cls := .type "tuple", data := .seq (itsL h os.length).toArray }
abbrev gO (h : Heap) (os : List Obj) : Heap := (gT h os).push { cls := .type "tuple", data := .seq ((itsL h os.length).map fun _ => Value.none).toArray }
abbrev gZ (h : Heap) (os : List Obj) : Heap := (gO h os).push { cls := .type "zip", data := .fields #[.none, .bool false, .bool false, .ref (pushL h os).objs.size, .ref (gT h os).objs.size] }
theorem meets_zip_newN {vs : List Value} {os : List Obj} {H : Nat → Heap → Prop} (hl : os.length = vs.length) (h1000 : vs.length ≤ 1000)
    (B : ∀ (k : Nat) (v : Value) (o : Obj), vs[k]? = some v → os[k]? = some o → Begins v o (H k)) :
    Meets (Builtin.«zip.__new__» ⟨.type "zip" :: vs, []⟩) (fun _ R s => (∀ k, k < vs.length → H k s.heap) ∧ R (.ok (.ret (.ref (gO s.heap os).objs.size))) { s with heap := gZ s.heap os }) :=
  .of_wp fun prog w A R s h => by
    obtain ⟨hp, g, d, tk, os'⟩ := s
    obtain ⟨h1, h2⟩ := h
    have hsub := sub_zip
    have sl : (1000 : Nat) ≤ sizeLine := by decide
    have s1 : (itsL hp os.length).length ≤ sizeLine := by simp; omega
    have q : ∀ {A' : Around} {E : Value → Shared → Prop} {Q : List Value → Shared → Prop}, Q (itsL hp os.length) ⟨pushL hp os, g, d, tk, os'⟩ → wpAny (model prog w) A' (Builtin.SmallTypes.iterAll vs) Q E ⟨hp, g, d, tk, os'⟩ := fun z => iterAll_begins hl B h1 (by rw [← hl]; exact z)
    have q2 : ∀ {A' : Around} {E : Value → Shared → Prop} {Q : Value → Shared → Prop} {s : Shared}, Q (.ref s.heap.objs.size) { s with heap := s.heap.push { cls := .type "tuple", data := .seq (itsL hp os.length).toArray } } → wpAny (model prog w) A' (newTuple (itsL hp os.length)) Q E s := fun z => wpAny_newTuple z s1
    have q3 : ∀ {A' : Around} {E : Value → Shared → Prop} {Q : Value → Shared → Prop} {s : Shared}, Q (.ref s.heap.objs.size) { s with heap := s.heap.push { cls := .type "tuple", data := .seq ((itsL hp os.length).map fun _ => Value.none).toArray } } → wpAny (model prog w) A' (newTuple ((itsL hp os.length).map fun _ => Value.none)) Q E s := fun z => wpAny_newTuple z (by rw [List.length_map]; exact s1)
    wp_walk using q, q2, q3
    exact ⟨_, rfl, h2⟩
end Rf

namespace Rf
open PySem PySem.Spec PyProof.Rows L2
theorem tc_zip (vs : List Value) : checkTypeCall "zip" ⟨vs, []⟩ = pure () := by kernel_rfl
theorem ai_zip (obj : Value) (vs : List Value) : argsOk "object.__init__" ⟨obj :: vs, []⟩ := by unfold argsOk; kernel_rfl
theorem nc_zip : ∀ vs : List Value, vs.length ≤ 21 → checkBuiltinCall "zip.__new__" ⟨.type "zip" :: vs, []⟩ = pure ()
  | [], _ => by kernel_rfl
  | [v0], _ => by kernel_rfl
  | [v0, v1], _ => by kernel_rfl
  | [v0, v1, v2], _ => by kernel_rfl
  | [v0, v1, v2, v3], _ => by kernel_rfl
  | [v0, v1, v2, v3, v4], _ => by kernel_rfl
  | [v0, v1, v2, v3, v4, v5], _ => by kernel_rfl
  | [v0, v1, v2, v3, v4, v5, v6], _ => by kernel_rfl
  | [v0, v1, v2, v3, v4, v5, v6, v7], _ => by kernel_rfl
  | [v0, v1, v2, v3, v4, v5, v6, v7, v8], _ => by kernel_rfl
  | [v0, v1, v2, v3, v4, v5, v6, v7, v8, v9], _ => by kernel_rfl
  | [v0, v1, v2, v3, v4, v5, v6, v7, v8, v9, v10], _ => by kernel_rfl
  | [v0, v1, v2, v3, v4, v5, v6, v7, v8, v9, v10, v11], _ => by kernel_rfl
  | [v0, v1, v2, v3, v4, v5, v6, v7, v8, v9, v10, v11, v12], _ => by kernel_rfl
  | [v0, v1, v2, v3, v4, v5, v6, v7, v8, v9, v10, v11, v12, v13], _ => by kernel_rfl
  | [v0, v1, v2, v3, v4, v5, v6, v7, v8, v9, v10, v11, v12, v13, v14], _ => by kernel_rfl
  | [v0, v1, v2, v3, v4, v5, v6, v7, v8, v9, v10, v11, v12, v13, v14, v15], _ => by kernel_rfl
  | [v0, v1, v2, v3, v4, v5, v6, v7, v8, v9, v10, v11, v12, v13, v14, v15, v16], _ => by kernel_rfl
  | [v0, v1, v2, v3, v4, v5, v6, v7, v8, v9, v10, v11, v12, v13, v14, v15, v16, v17], _ => by kernel_rfl
  | [v0, v1, v2, v3, v4, v5, v6, v7, v8, v9, v10, v11, v12, v13, v14, v15, v16, v17, v18], _ => by kernel_rfl
  | [v0, v1, v2, v3, v4, v5, v6, v7, v8, v9, v10, v11, v12, v13, v14, v15, v16, v17, v18, v19], _ => by kernel_rfl
  | [v0, v1, v2, v3, v4, v5, v6, v7, v8, v9, v10, v11, v12, v13, v14, v15, v16, v17, v18, v19, v20], _ => by kernel_rfl
  | v0 :: v1 :: v2 :: v3 :: v4 :: v5 :: v6 :: v7 :: v8 :: v9 :: v10 :: v11 :: v12 :: v13 :: v14 :: v15 :: v16 :: v17 :: v18 :: v19 :: v20 :: v21 :: vs, h => absurd h (by simp only [List.length_cons]; omega)
theorem pushL_get : ∀ (os : List Obj) (h : Heap) (k : Nat) (o : Obj), os[k]? = some o → o.isFreed = false → (pushL h os).get? (h.objs.size + k) = some o
  | [], _, _, _, e, _ => by simp at e
  | u :: os, h, 0, o, e, f => by
    have e' : u = o := by simpa using e
    subst e'
    exact pushL_old os (h.push u) (Heap.get?_push_size _ f)
  | u :: os, h, k + 1, o, e, f => by
    have := pushL_get os (h.push u) k o (by simpa using e) f
    rw [Heap.size_push] at this
    rw [show h.objs.size + (k + 1) = h.objs.size + 1 + k by omega]
    exact this
section
variable {prog : Program} {w : World} {A : Around} {E : Value → Shared → Prop} {s : Shared}
theorem zip_beginsN {vs : List Value} {os : List Obj} {H : Nat → Heap → Prop} {Q : Value → Shared → Prop} (hl : os.length = vs.length) (h21 : vs.length ≤ 21)
    (B : ∀ (k : Nat) (v : Value) (o : Obj), vs[k]? = some v → os[k]? = some o → Begins v o (H k)) (h1 : ∀ k, k < vs.length → H k s.heap)
    (h : ∀ h', IsZip h' (s.heap.objs.size + vs.length + 2) (s.heap.objs.size + vs.length) (s.heap.objs.size + vs.length + 1) .none → IsTupN h' (s.heap.objs.size + vs.length) (itsL s.heap vs.length).toArray →
      IsTupN h' (s.heap.objs.size + vs.length + 1) ((itsL s.heap vs.length).map fun _ => Value.none).toArray → (∀ k o, os[k]? = some o → h'.get? (s.heap.objs.size + k) = some o) → h'.objs.size = s.heap.objs.size + vs.length + 3 →
      (∀ c o, s.heap.get? c = some o → h'.get? c = some o) → Q (.ref (s.heap.objs.size + vs.length + 2)) { s with heap := h' }) :
    wpAny (model prog w) A (call (.type "zip") vs) Q E s := by
  refine callType_new F.called_zip (by decide) (tc_zip _) (nc_zip _ h21) (fun obj => ai_zip obj _) F.entry_zip_new (meets_zip_newN hl (by omega) B) ⟨h1, ?_⟩
  have z1 : (pushL s.heap os).objs.size = s.heap.objs.size + vs.length := by rw [pushL_size, hl]
  have zT : (gT s.heap os).objs.size = s.heap.objs.size + vs.length + 1 := by rw [Heap.size_push, z1]
  have zO : (gO s.heap os).objs.size = s.heap.objs.size + vs.length + 2 := by rw [Heap.size_push, zT]
  have zZ : (gZ s.heap os).objs.size = s.heap.objs.size + vs.length + 3 := by rw [Heap.size_push, zO]
  have gZ' : (gZ s.heap os).get? (gO s.heap os).objs.size = some { cls := .type "zip", data := .fields #[.none, .bool false, .bool false, .ref (pushL s.heap os).objs.size, .ref (gT s.heap os).objs.size] } := Heap.get?_push_size _ rfl
  have gO' : (gZ s.heap os).get? (gT s.heap os).objs.size = some { cls := .type "tuple", data := .seq ((itsL s.heap os.length).map fun _ => Value.none).toArray } := Heap.get?_push_of_some _ (Heap.get?_push_size _ rfl)
  have gT' : (gZ s.heap os).get? (pushL s.heap os).objs.size = some { cls := .type "tuple", data := .seq (itsL s.heap os.length).toArray } := Heap.get?_push_of_some _ (Heap.get?_push_of_some _ (Heap.get?_push_size _ rfl))
  rw [zO, zT, z1] at gZ'
  rw [zT, hl] at gO'
  rw [z1, hl] at gT'
  show _ ∧ _
  rw [zO]
  refine ⟨⟨_, gZ', rfl⟩, h _ gZ' gT' gO' (fun k o e => ?_) zZ fun c o e => Heap.get?_push_of_some _ (Heap.get?_push_of_some _ (Heap.get?_push_of_some _ (pushL_old _ _ e)))⟩
  have hk : k < vs.length := by rw [← hl]; exact (List.getElem?_eq_some_iff.mp e).1
  exact Heap.get?_push_of_some _ (Heap.get?_push_of_some _ (Heap.get?_push_of_some _ (pushL_get os _ k o e (B k vs[k] o (List.getElem?_eq_getElem hk) e).free)))
end
end Rf

namespace Rf
open PySem PySem.Spec PyProof.Rows L2
abbrev IsZipF (h : Heap) (z TI TO : Addr) (f0 : Value) (f : Bool) : Prop :=
  h.get? z = some { cls := .type "zip", dict := none, data := .fields #[f0, .bool f, .bool false, .ref TI, .ref TO], slots := #[] }
def ZFree (h : Heap) (v : Value) : Prop := v = .none ∨ ∃ T : Addr, v = rawInt T ∧ h.get? T = none
section
variable {prog : Program} {w : World} {A : Around} {E : Value → Shared → Prop} {s : Shared} {z TI TO : Addr} {N i : Nat} {is : Nat → Addr} {fp : Nat → List Addr} {n : Nat → Nat} {P : Nat → Nat → Value → Prop} {St : Nat → Nat → Heap → Prop}
theorem kdx_dead {a : Addr} {Q : Option Obj → Shared → Prop} (ho : s.heap.get? a = none) (h : Q none s) : wpAny (model prog w) A (loadIfAlive a) Q E s := by
  have h' : Q (s.heap.get? a) s := by rw [ho]; exact h
  exact fun _ _ _ => h'
theorem wpAny_tupleFree {v0 : Value} {f : Bool} {Q : Bool → Shared → Prop} (hz : IsZipF s.heap z TI TO v0 f) (hfr : ZFree s.heap v0) (h : Q true s) : wpAny (model prog w) A (Builtin.SmallTypes.ownedTupleIsFree (.ref z)) Q E s := by
  unfold Builtin.SmallTypes.ownedTupleIsFree
  refine wpAny_bind (wpAny_field hz rfl (x := v0) rfl ?_)
  rcases hfr with rfl | ⟨T, rfl, hT⟩
  · exact wpAny_pure h
  · show wpAny _ _ (loadIfAlive ((T : Int).toNat) >>= _) _ _ _
    rw [Int.toNat_natCast]
    refine wpAny_bind (kdx_dead hT ?_)
    simp only [Option.isNone_none, if_true]
    exact wpAny_pure h
theorem zipF_next_item {a0 : Array Value} {v0 : Value} {f : Bool} {Q : Value → Shared → Prop} (S : ZipSepN z TI TO N is fp) (D : ∀ k, k < N → Draws prog w A (is k) (fp k) (n k) (P k) (St k)) (hN : 0 < N) (hN2 : N ≤ 1000)
    (hz : IsZipF s.heap z TI TO v0 f) (hfr : ZFree s.heap v0) (hTI : IsTupN s.heap TI ((List.range N).map fun k => Value.ref (is k)).toArray) (hTO : IsTupN s.heap TO a0) (h0 : a0.size = N) (st : ∀ k, k < N → St k i s.heap) (hlt : ∀ k, k < N → i < n k)
    (hQ : ∀ (arr : Array Value) h' tk, arr.size = N → (∀ k, k < N → ∃ x, arr[k]? = some x ∧ P k i x) → IsZipF h' z TI TO (rawInt s.heap.objs.size) false → IsTupN h' TO arr → (∀ k, k < N → St k (i + 1) h') → IsTupN h' s.heap.objs.size arr → h'.objs.size = s.heap.objs.size + 1 →
      (∀ c o, c ≠ z → c ≠ TO → (∀ k, k < N → c ≠ is k) → s.heap.get? c = some o → h'.get? c = some o) → Q (.ref s.heap.objs.size) { s with heap := h', toks := tk }) :
    wpAny (model prog w) A (Builtin.«zip.__next__» ⟨[.ref z], []⟩) (fun fin s' => ∃ v, fin = .done (.ret v) ∧ Q v s') E s := by
  obtain ⟨hp, g, d, tk0, os⟩ := s
  show wpAny _ _ (field (.ref z) 2 >>= _) _ _ _
  refine wpAny_bind (wpAny_field hz rfl (x := .bool false) rfl ?_)
  show wpAny _ _ (field (.ref z) 3 >>= _) _ _ _
  refine wpAny_bind (wpAny_field hz rfl (x := .ref TI) rfl ?_)
  refine wpAny_bind (wpAny_seqItems hTI rfl ?_)
  have hne : ((List.range N).map fun k => Value.ref (is k)).toArray.isEmpty = false := by
    cases N with
    | zero => omega
    | succ N => simp [List.range_succ_eq_map]
  simp only [hne, Bool.false_eq_true, if_false]
  refine wpAny_bind (wpAny_tupleFree hz hfr ?_)
  simp only [if_true]
  refine wpAny_bind (wpAny_rule ?_)
  refine wpAny_bind (wpAny_field hz rfl (x := .ref TO) rfl ?_)
  refine wpAny_bind (wpAny_setField_rec hz (by simp) fun g0 hz0 hs0 => ?_)
  replace hz0 : IsZipF g0 z TI TO .ellipsis f := hz0
  replace hs0 : Heap.SameBut z hp g0 := hs0
  obtain ⟨L, hL⟩ : ∃ L, L = (List.map (fun k => Value.ref (is k)) (List.range N)).zipIdx := ⟨_, rfl⟩
  have hLl : L.length = N := by rw [hL]; simp
  have hLg : ∀ (k : Nat) (x : Value × Nat), L[k]? = some x → k < N ∧ x = (.ref (is k), k) := fun k x e => by
    have hk : k < N := by rw [← hLl]; exact (List.getElem?_eq_some_iff.mp e).1
    refine ⟨hk, ?_⟩
    rw [hL, List.getElem?_zipIdx, List.getElem?_map, List.getElem?_range hk] at e
    simpa using e.symm
  rw [← hL]
  have sl : (1000 : Nat) ≤ sizeLine := by decide
  refine wpAny_bind (wpAny_forIn_list _ (fun rest b s' => b.1 = none ∧ ∃ (k : Nat) (h : Heap) (tk : Nat) (arr : Array Value), s' = ⟨h, g, d, tk, os⟩ ∧ rest = L.drop k ∧ k ≤ N ∧ arr.size = N ∧ IsTupN h TO arr ∧ (∀ j, j < k → ∃ x, arr[j]? = some x ∧ P j i x) ∧ (∀ j, j < k → St j (i + 1) h) ∧ (∀ j, k ≤ j → j < N → St j i h) ∧ IsZipF h z TI TO .ellipsis f ∧ h.objs.size = hp.objs.size ∧ (∀ c o, c ≠ z → c ≠ TO → (∀ j, j < N → c ≠ is j) → hp.get? c = some o → h.get? c = some o)) _ ?turn ?fin _ _ ?init)
  case init =>
    refine ⟨rfl, 0, g0, tk0, a0, rfl, rfl, Nat.zero_le _, h0, hs0.extBut _ _ S.TOz hTO, fun j h => by omega, fun j h => by omega, fun j _ hj => (D j hj).over (st j hj) hs0 (S.zf j hj), hz0, hs0.1, fun c o c1 _ _ e => hs0.extBut _ _ c1 e⟩
  case turn =>
    rintro ⟨x, k'⟩ rest b s' ⟨hb, k, h, tk, arr, rfl, hr, hkN, ha, hU, hx, hs1, hs2, hzz, hsz, hkp⟩
    have hlt0 : k < L.length := by
      rcases Nat.lt_or_ge k L.length with q | q
      · exact q
      · rw [List.drop_of_length_le q] at hr; cases hr
    have hd : L.drop k = L[k] :: L.drop (k + 1) := List.drop_eq_getElem_cons hlt0
    rw [hd] at hr
    obtain ⟨e1, e2⟩ := List.cons.inj hr
    obtain ⟨hk, e3⟩ := hLg k L[k] (List.getElem?_eq_getElem hlt0)
    rw [e3] at e1
    obtain ⟨ex, ek⟩ := Prod.mk.inj e1
    subst ex
    have ek' := ek.symm
    subst ek'
    refine wpAny_bind (wpAny_onRaise ?_)
    show wpAny _ _ (Builtin.SmallTypes.nextOf (.ref (is k)) >>= _) _ _ ⟨h, g, d, tk, os⟩
    refine wpAny_bind ((D k hk).item i _ _ _ (hlt k hk) (hs2 k (Nat.le_refl _) hk) fun x1 p1 tk1 hx1 sn1 hp1 => wpAny_pure ?_)
    replace hp1 : Heap.SameBut (is k) h p1 := hp1
    have Ti : TO ≠ is k := fun e => S.Tf k hk (by rw [e]; exact S.mem k hk)
    have zi : z ≠ is k := fun e => S.zf k hk (by rw [e]; exact S.mem k hk)
    have hU1 : IsTupN p1 TO arr := hp1.extBut _ _ Ti hU
    refine wpAny_bind (wpAny_seqItems (s := ⟨p1, g, d, tk1, os⟩) hU1 rfl ?_)
    refine wpAny_bind (wpAny_updateSeq (s := ⟨p1, g, d, tk1, os⟩) hU1 rfl ?_ (by omega) (by simp; omega))
    have hT1 := Heap.get?_update_self (Obj.mapSeq (·.setIfInBounds k x1)) hU1 rfl
    have hs9 : Heap.SameBut TO p1 (p1.update TO (Obj.mapSeq (·.setIfInBounds k x1))) := Heap.SameBut.update ..
    generalize p1.update TO (Obj.mapSeq (·.setIfInBounds k x1)) = p2 at hT1 hs9
    replace hT1 : IsTupN p2 TO (arr.setIfInBounds k x1) := hT1.trans (by simp [Obj.mapSeq])
    refine wpAny_bind (wpAny_letGo ?_)
    refine wpAny_pure ⟨rfl, k + 1, p2, tk1, arr.setIfInBounds k x1, rfl, e2, hk, by simp [ha], hT1, fun j hj => ?_, fun j hj => ?_, fun j h1 h2 => ?_, hs9.extBut _ _ S.TOz.symm (hp1.extBut _ _ zi hzz), by rw [hs9.1, hp1.1, hsz], fun c o c1 c2 c3 e => hs9.extBut _ _ c2 (hp1.extBut _ _ (c3 k hk) (hkp c o c1 c2 c3 e))⟩
    · by_cases e : j = k
      · subst e
        exact ⟨x1, by rw [Array.getElem?_setIfInBounds]; simp; omega, hx1⟩
      · obtain ⟨y, y1, y2⟩ := hx j (by omega)
        exact ⟨y, by rw [Array.getElem?_setIfInBounds, if_neg (by omega)]; exact y1, y2⟩
    · by_cases e : j = k
      · subst e
        exact (D j hk).over sn1 hs9 (S.Tf j hk)
      · have hjN : j < N := by omega
        exact (D j hjN).over ((D j hjN).over (hs1 j (by omega)) hp1 (S.sep k j hk hjN (by omega))) hs9 (S.Tf j hjN)
    · exact (D j h2).over ((D j h2).over (hs2 j (by omega) h2) hp1 (S.sep k j hk h2 (by omega))) hs9 (S.Tf j h2)
  case fin =>
    rintro ⟨b1, b2⟩ s' ⟨hb, k, h, tk, arr, rfl, hr, hkN, ha, hU, hx, hs1, hs2, hzz, hsz, hkp⟩
    have hk : k = N := by
      have := congrArg List.length hr
      simp at this
      omega
    subst hk
    cases hb
    show wpAny _ _ (seqItems? (.ref TO) >>= _) _ _ _
    refine wpAny_bind (wpAny_seqItems (s := ⟨h, g, d, tk, os⟩) hU rfl ?_)
    refine wpAny_bind (wpAny_newTuple ?_ (by simp; omega))
    rw [Array.toArray_toList]
    have hzlt : z < h.objs.size := Heap.lt_size hzz
    show wpAny _ _ (Builtin.SmallTypes.ownedTupleHandOut (.ref z) (.ref h.objs.size) >>= _) _ _ ⟨h.push { cls := .type "tuple", data := .seq arr }, g, d, tk, os⟩
    refine wpAny_bind ?_
    unfold Builtin.SmallTypes.ownedTupleHandOut
    have hz₆ : IsZipF (h.push { cls := .type "tuple", data := .seq arr }) z TI TO .ellipsis f := Heap.get?_push_of_some _ hzz
    refine wpAny_bind (wpAny_setField_rec hz₆ (by simp) fun h₇ hz₇ hs₇ => ?_)
    replace hz₇ : IsZipF h₇ z TI TO (rawInt h.objs.size) f := hz₇
    refine wpAny_setField_rec hz₇ (by simp) fun h₈ hz₈ hs₈ => ?_
    replace hz₈ : IsZipF h₈ z TI TO (rawInt h.objs.size) false := hz₈
    replace hs₇ : Heap.SameBut z (h.push { cls := .type "tuple", data := .seq arr }) h₇ := hs₇
    replace hs₈ : Heap.SameBut z h₇ h₈ := hs₈
    have up : ∀ c o, c ≠ z → h.get? c = some o → h₈.get? c = some o := fun c o c1 e => hs₈.extBut _ _ c1 (hs₇.extBut _ _ c1 (Heap.get?_push_of_some _ e))
    have hT₈ : IsTupN h₈ h.objs.size arr := hs₈.extBut _ _ (Nat.ne_of_gt hzlt) (hs₇.extBut _ _ (Nat.ne_of_gt hzlt) (Heap.get?_push_size _ rfl))
    have hz8 : h₈.objs.size = h.objs.size + 1 := by rw [hs₈.1, hs₇.1, Heap.size_push]
    rw [hsz] at hz₈ hT₈ hz8
    refine wpAny_pure ⟨_, rfl, ?_⟩
    show Q (.ref h.objs.size) ⟨h₈, g, d, tk, os⟩
    rw [hsz]
    exact hQ arr h₈ tk ha hx hz₈ (up _ _ S.TOz hU) (fun j hj => (D j hj).frame _ _ _ (hs1 j hj) fun b hb o e => up b o (fun q => S.zf j hj (q ▸ hb)) e) hT₈ hz8 fun c o cz cT c1 e => up c o cz (hkp c o cz cT c1 e)
theorem zipF_next_end {a0 : Array Value} {v0 : Value} {f : Bool} {Q : Fin → Shared → Prop} (S : ZipSepN z TI TO N is fp) (D : ∀ k, k < N → Draws prog w A (is k) (fp k) (n k) (P k) (St k)) (hN : 0 < N)
    (hz : IsZipF s.heap z TI TO v0 f) (hfr : ZFree s.heap v0) (hTI : IsTupN s.heap TI ((List.range N).map fun k => Value.ref (is k)).toArray) (hTO : IsTupN s.heap TO a0) (st : ∀ k, k < N → St k i s.heap) (hend : i = n 0)
    (hE : ∀ h' tk e, (∀ c o, c ≠ z → c ≠ TO → (∀ k, k < N → c ≠ is k) → s.heap.get? c = some o → h'.get? c = some o) → (∃ o, h'.get? e = some o ∧ o.cls = .type "StopIteration") → E (.ref e) { s with heap := h', toks := tk }) :
    wpAny (model prog w) A (Builtin.«zip.__next__» ⟨[.ref z], []⟩) Q E s := by
  obtain ⟨hp, g, d, tk0, os⟩ := s
  show wpAny _ _ (field (.ref z) 2 >>= _) _ _ _
  refine wpAny_bind (wpAny_field hz rfl (x := .bool false) rfl ?_)
  show wpAny _ _ (field (.ref z) 3 >>= _) _ _ _
  refine wpAny_bind (wpAny_field hz rfl (x := .ref TI) rfl ?_)
  refine wpAny_bind (wpAny_seqItems hTI rfl ?_)
  have hne : ((List.range N).map fun k => Value.ref (is k)).toArray.isEmpty = false := by
    cases N with
    | zero => omega
    | succ N => simp [List.range_succ_eq_map]
  simp only [hne, Bool.false_eq_true, if_false]
  refine wpAny_bind (wpAny_tupleFree hz hfr ?_)
  simp only [if_true]
  refine wpAny_bind (wpAny_rule ?_)
  refine wpAny_bind (wpAny_field hz rfl (x := .ref TO) rfl ?_)
  refine wpAny_bind (wpAny_setField_rec hz (by simp) fun g0 hz0 hs0 => ?_)
  replace hz0 : IsZipF g0 z TI TO .ellipsis f := hz0
  replace hs0 : Heap.SameBut z hp g0 := hs0
  obtain ⟨L, hL⟩ : ∃ L, (List.map (fun k => Value.ref (is k)) (List.range N)).zipIdx = (Value.ref (is 0), 0) :: L := by
    cases N with
    | zero => omega
    | succ N => exact ⟨_, by rw [List.range_succ_eq_map, List.map_cons, List.zipIdx_cons]⟩
  rw [hL]
  refine wpAny_bind ?_
  rw [List.forIn_cons]
  refine wpAny_bind (wpAny_bind (wpAny_onRaise ?_))
  show wpAny _ _ (Builtin.SmallTypes.nextOf (.ref (is 0)) >>= _) _ _ ⟨g0, g, d, tk0, os⟩
  have zi : z ≠ is 0 := fun e => S.zf 0 hN (by rw [e]; exact S.mem 0 hN)
  refine wpAny_bind ((D 0 hN).done ⟨g0, g, d, tk0, os⟩ _ _ (by rw [← hend]; exact ((D 0 hN).over (st 0 hN) hs0 (S.zf 0 hN))) fun q e hq he => ?_)
  replace hq : Heap.ExtBut (is 0) g0 q := hq
  obtain ⟨oe, hoe, hce⟩ := he
  replace hoe : q.get? e = some oe := hoe
  have hzq : IsZipF q z TI TO .ellipsis f := hq _ _ zi hz0
  have hez : e ≠ z := fun x => by subst x; rw [hzq] at hoe; cases hoe; simp at hce
  refine wpAny_setField_rec (s := ⟨q, g, d, tk0, os⟩) hzq (by simp) fun q' _ hq' => ?_
  replace hq' : Heap.SameBut z q q' := hq'
  exact hE q' tk0 e (fun c o cz cT c1 x => hq'.extBut _ _ cz (hq _ _ (c1 0 hN) (hs0.extBut _ _ cz x))) ⟨oe, hq'.extBut _ _ hez hoe, hce⟩

theorem zipH_next_item {T : Addr} {f : Bool} {oT : Obj} {Q : Value → Shared → Prop} (S : ZipSepN z TI TO N is fp) (D : ∀ k, k < N → Draws prog w A (is k) (fp k) (n k) (P k) (St k)) (hN : 0 < N) (hN2 : N ≤ 1000)
    (hz : IsZipHeld s.heap z TI TO T f) (hT : s.heap.get? T = some oT) (hTI : IsTupN s.heap TI ((List.range N).map fun k => Value.ref (is k)).toArray) (st : ∀ k, k < N → St k i s.heap) (hlt : ∀ k, k < N → i < n k)
    (hQ : ∀ (arr : Array Value) h' tk, arr.size = N → (∀ k, k < N → ∃ x, arr[k]? = some x ∧ P k i x) → IsZipF h' z TI TO (rawInt T) true → (∀ k, k < N → St k (i + 1) h') → IsTupN h' s.heap.objs.size arr → h'.objs.size = s.heap.objs.size + 1 →
      (∀ c o, c ≠ z → (∀ k, k < N → c ≠ is k) → s.heap.get? c = some o → h'.get? c = some o) → Q (.ref s.heap.objs.size) { s with heap := h', toks := tk }) :
    wpAny (model prog w) A (Builtin.«zip.__next__» ⟨[.ref z], []⟩) (fun fin s' => ∃ v, fin = .done (.ret v) ∧ Q v s') E s := by
  obtain ⟨hp, g, d, tk0, os⟩ := s
  show wpAny _ _ (field (.ref z) 2 >>= _) _ _ _
  refine wpAny_bind (wpAny_field hz rfl (x := .bool false) rfl ?_)
  show wpAny _ _ (field (.ref z) 3 >>= _) _ _ _
  refine wpAny_bind (wpAny_field hz rfl (x := .ref TI) rfl ?_)
  refine wpAny_bind (wpAny_seqItems hTI rfl ?_)
  have hne : ((List.range N).map fun k => Value.ref (is k)).toArray.isEmpty = false := by
    cases N with
    | zero => omega
    | succ N => simp [List.range_succ_eq_map]
  simp only [hne, Bool.false_eq_true, if_false]
  refine wpAny_bind (wpAny_tupleHeld_zip hz hT fun g0 hz0 hs0 => ?_)
  replace hz0 : IsZipF g0 z TI TO (rawInt T) true := hz0
  replace hs0 : Heap.SameBut z hp g0 := hs0
  simp only [Bool.false_eq_true, if_false]
  rw [← Array.forIn_toList]
  obtain ⟨L, hL⟩ : ∃ L, L = (List.map (fun k => Value.ref (is k)) (List.range N)) := ⟨_, rfl⟩
  have hLl : L.length = N := by rw [hL]; simp
  have hLg : ∀ (k : Nat) (x : Value), L[k]? = some x → k < N ∧ x = .ref (is k) := fun k x e => by
    have hk : k < N := by rw [← hLl]; exact (List.getElem?_eq_some_iff.mp e).1
    refine ⟨hk, ?_⟩
    rw [hL, List.getElem?_map, List.getElem?_range hk] at e
    simpa using e.symm
  rw [← hL]
  have sl : (1000 : Nat) ≤ sizeLine := by decide
  refine wpAny_bind (wpAny_forIn_list _ (fun rest b s' => b.1 = none ∧ ∃ (k : Nat) (h : Heap) (tk : Nat), s' = ⟨h, g, d, tk, os⟩ ∧ rest = L.drop k ∧ k ≤ N ∧ b.2.size = k ∧ (∀ j, j < k → ∃ x, b.2[j]? = some x ∧ P j i x) ∧ (∀ j, j < k → St j (i + 1) h) ∧ (∀ j, k ≤ j → j < N → St j i h) ∧ IsZipF h z TI TO (rawInt T) true ∧ h.objs.size = hp.objs.size ∧ (∀ c o, c ≠ z → (∀ j, j < N → c ≠ is j) → hp.get? c = some o → h.get? c = some o)) _ ?turn ?fin _ _ ?init)
  case init =>
    refine ⟨rfl, 0, g0, tk0, rfl, rfl, Nat.zero_le _, rfl, fun j h => by omega, fun j h => by omega, fun j _ hj => (D j hj).over (st j hj) hs0 (S.zf j hj), hz0, hs0.1, fun c o c1 _ e => hs0.extBut _ _ c1 e⟩
  case turn =>
    rintro x rest ⟨b1, b2⟩ s' ⟨hb, k, h, tk, rfl, hr, hkN, ha, hx, hs1, hs2, hzz, hsz, hkp⟩
    have hlt0 : k < L.length := by
      rcases Nat.lt_or_ge k L.length with q | q
      · exact q
      · rw [List.drop_of_length_le q] at hr; cases hr
    have hd : L.drop k = L[k] :: L.drop (k + 1) := List.drop_eq_getElem_cons hlt0
    rw [hd] at hr
    obtain ⟨e1, e2⟩ := List.cons.inj hr
    obtain ⟨hk, e3⟩ := hLg k L[k] (List.getElem?_eq_getElem hlt0)
    rw [e3] at e1
    subst e1
    refine wpAny_bind (wpAny_holding ?_)
    show wpAny _ _ (Builtin.SmallTypes.nextOf (.ref (is k)) >>= _) _ _ ⟨h, g, d, tk, os⟩
    refine wpAny_bind ((D k hk).item i _ _ _ (hlt k hk) (hs2 k (Nat.le_refl _) hk) fun x1 p1 tk1 hx1 sn1 hp1 => wpAny_pure ?_)
    replace hp1 : Heap.SameBut (is k) h p1 := hp1
    have zi : z ≠ is k := fun e => S.zf k hk (by rw [e]; exact S.mem k hk)
    refine wpAny_pure ⟨rfl, k + 1, p1, tk1, rfl, e2, hk, by show (b2.push x1).size = _; rw [Array.size_push]; exact congrArg (· + 1) ha, fun j hj => ?_, fun j hj => ?_, fun j h1 h2 => ?_, hp1.extBut _ _ zi hzz, by rw [hp1.1, hsz], fun c o c1 c3 e => hp1.extBut _ _ (c3 k hk) (hkp c o c1 c3 e)⟩
    · replace ha : b2.size = k := ha
      show ∃ x, (b2.push x1)[j]? = some x ∧ _
      by_cases e : j = k
      · subst e
        exact ⟨x1, by rw [Array.getElem?_push, if_pos ha.symm], hx1⟩
      · obtain ⟨y, y1, y2⟩ := hx j (by omega)
        exact ⟨y, by rw [Array.getElem?_push, if_neg (by omega)]; exact y1, y2⟩
    · by_cases e : j = k
      · subst e
        exact sn1
      · have hjN : j < N := by omega
        exact (D j hjN).over (hs1 j (by omega)) hp1 (S.sep k j hk hjN (by omega))
    · exact (D j h2).over (hs2 j (by omega) h2) hp1 (S.sep k j hk h2 (by omega))
  case fin =>
    rintro ⟨b1, b2⟩ s' ⟨hb, k, h, tk, rfl, hr, hkN, ha, hx, hs1, hs2, hzz, hsz, hkp⟩
    have hk : k = N := by
      have := congrArg List.length hr
      simp at this
      omega
    subst hk
    cases hb
    replace ha : b2.size = k := ha
    refine wpAny_bind (wpAny_newTuple ?_ (by simp; omega))
    rw [Array.toArray_toList]
    have up : ∀ c o, h.get? c = some o → (h.push { cls := .type "tuple", data := .seq b2 }).get? c = some o := fun c o e => Heap.get?_push_of_some _ e
    have hT₈ : IsTupN (h.push { cls := .type "tuple", data := .seq b2 }) h.objs.size b2 := Heap.get?_push_size _ rfl
    have hz8 : (h.push { cls := .type "tuple", data := .seq b2 }).objs.size = h.objs.size + 1 := Heap.size_push ..
    refine wpAny_pure ⟨_, rfl, ?_⟩
    show Q (.ref h.objs.size) ⟨h.push { cls := .type "tuple", data := .seq b2 }, g, d, tk, os⟩
    rw [hsz] at hT₈ hz8 ⊢
    exact hQ b2 _ tk ha hx (up _ _ hzz) (fun j hj => (D j hj).frame _ _ _ (hs1 j hj) fun b hb o e => up b o e) hT₈ hz8 fun c o cz c1 e => up c o (hkp c o cz c1 e)
theorem zipH_next_end {T : Addr} {f : Bool} {oT : Obj} {Q : Fin → Shared → Prop} (S : ZipSepN z TI TO N is fp) (D : ∀ k, k < N → Draws prog w A (is k) (fp k) (n k) (P k) (St k)) (hN : 0 < N)
    (hz : IsZipHeld s.heap z TI TO T f) (hT : s.heap.get? T = some oT) (hTI : IsTupN s.heap TI ((List.range N).map fun k => Value.ref (is k)).toArray) (st : ∀ k, k < N → St k i s.heap) (hend : i = n 0)
    (hE : ∀ h' tk e, (∀ c o, c ≠ z → (∀ k, k < N → c ≠ is k) → s.heap.get? c = some o → h'.get? c = some o) → (∃ o, h'.get? e = some o ∧ o.cls = .type "StopIteration") → E (.ref e) { s with heap := h', toks := tk }) :
    wpAny (model prog w) A (Builtin.«zip.__next__» ⟨[.ref z], []⟩) Q E s := by
  obtain ⟨hp, g, d, tk0, os⟩ := s
  show wpAny _ _ (field (.ref z) 2 >>= _) _ _ _
  refine wpAny_bind (wpAny_field hz rfl (x := .bool false) rfl ?_)
  show wpAny _ _ (field (.ref z) 3 >>= _) _ _ _
  refine wpAny_bind (wpAny_field hz rfl (x := .ref TI) rfl ?_)
  refine wpAny_bind (wpAny_seqItems hTI rfl ?_)
  have hne : ((List.range N).map fun k => Value.ref (is k)).toArray.isEmpty = false := by
    cases N with
    | zero => omega
    | succ N => simp [List.range_succ_eq_map]
  simp only [hne, Bool.false_eq_true, if_false]
  refine wpAny_bind (wpAny_tupleHeld_zip hz hT fun g0 hz0 hs0 => ?_)
  replace hs0 : Heap.SameBut z hp g0 := hs0
  simp only [Bool.false_eq_true, if_false]
  rw [← Array.forIn_toList]
  obtain ⟨L, hL⟩ : ∃ L, (List.map (fun k => Value.ref (is k)) (List.range N)) = Value.ref (is 0) :: L := by
    cases N with
    | zero => omega
    | succ N => exact ⟨_, by rw [List.range_succ_eq_map, List.map_cons]⟩
  simp only [hL]
  refine wpAny_bind ?_
  rw [List.forIn_cons]
  refine wpAny_bind (wpAny_bind (wpAny_holding ?_))
  show wpAny _ _ (Builtin.SmallTypes.nextOf (.ref (is 0)) >>= _) _ _ ⟨g0, g, d, tk0, os⟩
  refine wpAny_bind ((D 0 hN).done ⟨g0, g, d, tk0, os⟩ _ _ (by rw [← hend]; exact ((D 0 hN).over (st 0 hN) hs0 (S.zf 0 hN))) fun q e hq he => ?_)
  replace hq : Heap.ExtBut (is 0) g0 q := hq
  exact hE q tk0 e (fun c o cz c1 x => hq _ _ (c1 0 hN) (hs0.extBut _ _ cz x)) he
def ZipA (h : Heap) (z TI TO : Addr) : Prop := ∃ v f, IsZipF h z TI TO v f ∧ (v = .none ∨ ∃ T : Addr, v = rawInt T)
theorem wpAny_pyNext_zipA_item {a0 : Array Value} {Q : Option Value → Shared → Prop} (S : ZipSepN z TI TO N is fp) (D : ∀ k, k < N → Draws prog w A.in1 (is k) (fp k) (n k) (P k) (St k)) (hN : 0 < N) (hN2 : N ≤ 1000)
    (hz : ZipA s.heap z TI TO) (hTI : IsTupN s.heap TI ((List.range N).map fun k => Value.ref (is k)).toArray) (hTO : IsTupN s.heap TO a0) (h0 : a0.size = N) (st : ∀ k, k < N → St k i s.heap) (hlt : ∀ k, k < N → i < n k)
    (hQ : ∀ (arr : Array Value) h' tk, arr.size = N → (∀ k, k < N → ∃ x, arr[k]? = some x ∧ P k i x) → ZipA h' z TI TO → (∃ a1 : Array Value, a1.size = N ∧ IsTupN h' TO a1) → (∀ k, k < N → St k (i + 1) h') → IsTupN h' s.heap.objs.size arr → h'.objs.size = s.heap.objs.size + 1 →
      (∀ c o, c ≠ z → c ≠ TO → (∀ k, k < N → c ≠ is k) → s.heap.get? c = some o → h'.get? c = some o) → Q (some (.ref s.heap.objs.size)) { s with heap := h', toks := tk }) :
    wpAny (model prog w) A (pyNext (.ref z)) Q E s := by
  obtain ⟨v, f, hz, hv⟩ := hz
  have hT : s.TypeIs (.ref z) "zip" := ⟨_, hz, rfl⟩
  unfold pyNext
  refine wpAny_bind (wpAny_attempt (wpAny_callSpecial?_slot (name := Str.ofString "__next__") hT F.slot_zip_next
    (wpAny_call_entry F.slot_zip_next hT F.entry_zip_next ?_ (F.args_zip_next_1 _))))
  rcases hv with rfl | ⟨T, rfl⟩
  · exact zipF_next_item S D hN hN2 hz (.inl rfl) hTI hTO h0 st hlt fun arr h' tk b1 b2 b3 b4 b5 b6 b7 b8 => wpAny_pure (hQ arr h' tk b1 b2 ⟨_, _, b3, .inr ⟨_, rfl⟩⟩ ⟨_, b1, b4⟩ b5 b6 b7 b8)
  · cases hg : s.heap.get? T with
    | none => exact zipF_next_item S D hN hN2 hz (.inr ⟨T, rfl, hg⟩) hTI hTO h0 st hlt fun arr h' tk b1 b2 b3 b4 b5 b6 b7 b8 => wpAny_pure (hQ arr h' tk b1 b2 ⟨_, _, b3, .inr ⟨_, rfl⟩⟩ ⟨_, b1, b4⟩ b5 b6 b7 b8)
    | some oT =>
      refine zipH_next_item S D hN hN2 hz hg hTI st hlt fun arr h' tk b1 b2 b3 b5 b6 b7 b8 => wpAny_pure (hQ arr h' tk b1 b2 ⟨_, _, b3, .inr ⟨_, rfl⟩⟩ ⟨a0, h0, ?_⟩ b5 b6 b7 fun c o c1 _ c2 e => b8 c o c1 c2 e)
      exact b8 TO _ S.TOz (fun k hk e => S.Tf k hk (by rw [e]; exact S.mem k hk)) hTO
theorem wpAny_pyNext_zipA_end {a0 : Array Value} {Q : Option Value → Shared → Prop} (S : ZipSepN z TI TO N is fp) (D : ∀ k, k < N → Draws prog w A.in1 (is k) (fp k) (n k) (P k) (St k)) (hN : 0 < N)
    (hz : ZipA s.heap z TI TO) (hTI : IsTupN s.heap TI ((List.range N).map fun k => Value.ref (is k)).toArray) (hTO : IsTupN s.heap TO a0) (st : ∀ k, k < N → St k i s.heap) (hend : i = n 0)
    (hQ : ∀ h' tk, (∀ c o, c ≠ z → c ≠ TO → (∀ k, k < N → c ≠ is k) → s.heap.get? c = some o → h'.get? c = some o) → Q none { s with heap := h', toks := tk }) : wpAny (model prog w) A (pyNext (.ref z)) Q E s := by
  obtain ⟨v, f, hz, hv⟩ := hz
  have hT : s.TypeIs (.ref z) "zip" := ⟨_, hz, rfl⟩
  unfold pyNext
  refine wpAny_bind (wpAny_attempt (wpAny_callSpecial?_slot (name := Str.ofString "__next__") hT F.slot_zip_next
    (wpAny_call_entry F.slot_zip_next hT F.entry_zip_next ?_ (F.args_zip_next_1 _))))
  rcases hv with rfl | ⟨T, rfl⟩
  · refine zipF_next_end S D hN hz (.inl rfl) hTI hTO st hend fun h' tk e hk he => ?_
    obtain ⟨o, ho, hc⟩ := he
    refine wpAny_bind (wpAny_isInstance (T := "StopIteration") (b := true) ⟨o, ho, hc⟩ isSubtype_stop ?_)
    exact wpAny_pure (hQ _ _ hk)
  · cases hg : s.heap.get? T with
    | none =>
      refine zipF_next_end S D hN hz (.inr ⟨T, rfl, hg⟩) hTI hTO st hend fun h' tk e hk he => ?_
      obtain ⟨o, ho, hc⟩ := he
      refine wpAny_bind (wpAny_isInstance (T := "StopIteration") (b := true) ⟨o, ho, hc⟩ isSubtype_stop ?_)
      exact wpAny_pure (hQ _ _ hk)
    | some oT =>
      refine zipH_next_end S D hN hz hg hTI st hend fun h' tk e hk he => ?_
      obtain ⟨o, ho, hc⟩ := he
      refine wpAny_bind (wpAny_isInstance (T := "StopIteration") (b := true) ⟨o, ho, hc⟩ isSubtype_stop ?_)
      exact wpAny_pure (hQ _ _ fun c o c1 _ c2 e => hk c o c1 c2 e)
end
end Rf

namespace Rf
open PySem PySem.Spec PyProof.Rows L2
theorem wpAny_pyIter_zipF {prog : Program} {w : World} {A : Around} {E : Value → Shared → Prop} {s : Shared} {z TI TO : Addr} {f0 : Value} {f : Bool} {Q : Value → Shared → Prop} (hz : IsZipF s.heap z TI TO f0 f) (h : Q (.ref z) s) : wpAny (model prog w) A (pyIter (.ref z)) Q E s := by
  have hT : s.TypeIs (.ref z) "zip" := ⟨_, hz, rfl⟩
  refine wpAny_pyIter_slot hT F.slot_zip_iter (wpAny_call_entry F.slot_zip_iter hT F.entry_zip_iter ?_ (F.args_zip_iter_1 _))
  show wpAny _ _ (ret (.ref z)) _ _ s
  exact wpAny_pure ⟨_, rfl, "zip", _, hT, F.slot_zip_next.lookup, h⟩
theorem go_zipA {prog : Program} {w : World} {A : Around} {E : Value → Shared → Prop} {s : Shared} {tg : Expr} {z TI TO T : Addr} {Q : Unit → Shared → Prop} (hz : ZipA s.heap z TI TO)
    (hQ : ∀ h', ZipA h' z TI TO → Heap.SameBut z s.heap h' → Q () { s with heap := h' }) : wpAny (model prog w) A (letOwnedTupleGo tg (.ref z) (.ref T)) Q E s := by
  obtain ⟨v, f, hz, hv⟩ := hz
  have key : wpAny (model prog w) A (do
      let o ← load z
      match o.cls, o.data with
      | .type n, .fields vs =>
        if ["enumerate", "zip", "dict_itemiterator", "dict_reverseitemiterator", "odict_iterator", "itertools.zip_longest", "itertools.pairwise"].contains n && vs[0]? == some (rawInt T) then
          rule "for.unpacks-the-owned-tuple"
          updateField z 0 .none
      | _, _ => pure ()) Q E s := by
    refine wpAny_bind (wpAny_load hz ?_)
    show wpAny _ _ (if (["enumerate", "zip", "dict_itemiterator", "dict_reverseitemiterator", "odict_iterator", "itertools.zip_longest", "itertools.pairwise"].contains "zip" &&
        (#[v, .bool f, .bool false, .ref TI, .ref TO] : Array Value)[0]? == some (rawInt T)) = true then _ else _) Q E s
    split
    · refine wpAny_bind (wpAny_rule ?_)
      show wpAny _ _ (setField (.ref z) 0 .none) Q E s
      exact wpAny_setField_rec hz (by simp) fun h' hz' hs' => hQ h' ⟨_, _, hz', .inl rfl⟩ hs'
    · exact wpAny_pure (hQ _ ⟨_, _, hz, hv⟩ (Heap.SameBut.refl _ _))
  unfold letOwnedTupleGo
  cases tg <;> first
    | exact key
    | exact wpAny_pure (hQ _ ⟨_, _, hz, hv⟩ (Heap.SameBut.refl _ _))
theorem vals_of : ∀ {ys : List V} {l : List Value}, ys.length = l.length → (∀ (k : Nat) (y : V) (v : Value), ys[k]? = some y → l[k]? = some v → RelV y v) → Vals ys l
  | [], [], _, _ => .nil
  | [], _ :: _, h, _ => by simp at h
  | _ :: _, [], h, _ => by simp at h
  | y :: ys, v :: l, h, g => .cons (g 0 y v rfl rfl) (vals_of (by simpa using h) fun k y' v' e1 e2 => g (k + 1) y' v' (by simpa using e1) (by simpa using e2))
def ItzN (K : PySem.W.Frag) (N : Nat) (kd : Nat → Bool) (ad : Nat → Addr) : It :=
  ⟨fun i H => ∀ k, k < N → ∃ (xs : List V) (x : V), SqK K (kd k) H (ad k) xs ∧ xs[i]? = some x,
    fun i H v H' => ∃ T ys o, v = .ref T ∧ H T = none ∧ o.dict = none ∧ H' = upd H T (.frz o (.tup ys)) ∧ ys.length = N ∧ ∀ k, k < N → ∀ xs, SqK K (kd k) H (ad k) xs → ∃ x, xs[i]? = some x ∧ ys[k]? = some x,
    fun i H => ∀ k, k < N → ∃ xs : List V, SqK K (kd k) H (ad k) xs ∧ i = xs.length⟩
def TnN (N : Nat) (kd : Nat → Bool) (ad : Nat → Addr) (z TI TO : Addr) (is : Nat → Addr) (i : Nat) (h : Heap) : Prop :=
  ZipA h z TI TO ∧ IsTupN h TI ((List.range N).map fun k => Value.ref (is k)).toArray ∧ (∃ a : Array Value, a.size = N ∧ IsTupN h TO a) ∧ ∀ k, k < N → ItK (kd k) h (is k) (ad k) i
theorem turn_zipN {P : Program} {w : World} {K : PySem.W.Frag} {tg : Expr} {N : Nat} {kd : Nat → Bool} {ad : Nat → Addr} {z TI TO : Addr} {is : Nat → Addr} (hN : 0 < N) (hN2 : N ≤ 1000) (D : ZipSepN z TI TO N is fun k => [is k, ad k]) (na : ∀ k, k < N → ad k ≠ is k) :
    Turn P w K tg (ItzN K N kd ad) (z :: TI :: TO :: (List.range N).map is) z (TnN N kd ad z TI TO is) where
  mem := by simp
  obj := fun i h st d hc => by
    obtain ⟨⟨v, f, hz, _⟩, hTI, ⟨a, _, hTO⟩, hs⟩ := st
    have e' : d = z ∨ d = TI ∨ d = TO ∨ ∃ k, k < N ∧ is k = d := by simpa using hc
    rcases e' with q | q | q | ⟨k, hk, q⟩
    · rw [q]; exact ⟨_, hz, fun v q => nomatch q⟩
    · rw [q]; exact ⟨_, hTI, fun v q => nomatch q⟩
    · rw [q]; exact ⟨_, hTO, fun v q => nomatch q⟩
    · obtain ⟨o1, e1, _, d1⟩ := (hs k hk).ob
      rw [← q]; exact ⟨o1, e1, fun v q => by rw [d1] at q; cases q⟩
  keep := fun i h h' st k => by
    obtain ⟨⟨v, f, hz, hv⟩, hTI, ⟨a, ha, hTO⟩, hs⟩ := st
    exact ⟨⟨v, f, k z (by simp) _ hz, hv⟩, k TI (by simp) _ hTI, ⟨a, ha, k TO (by simp) _ hTO⟩, fun j hj => (hs j hj).at' fun o q => k (is j) (by simp; exact .inr (.inr (.inr ⟨j, hj, rfl⟩))) o q⟩
  item := by
    intro X hP hw hK hc i pins s σ H E I hf st hg
    subst hP hw hK
    obtain ⟨hz, hTI, ⟨a0, h0, hTO⟩, hs⟩ := st
    have hh : X.A.in1.handled = none := I.ok.hd hc
    have key : ∀ k, ∃ its : List Value, k < N → ∃ xs x u, SqK X.K (kd k) H (ad k) xs ∧ xs[i]? = some x ∧ DaK (kd k) s.heap (ad k) its.toArray ∧ its[i]? = some u ∧ RelV x u := fun k => by
      by_cases hk : k < N
      · obtain ⟨xs, x, hq, hx⟩ := hg k hk
        obtain ⟨its, rv, p, _⟩ := seqK I hq
        obtain ⟨u, hu, ru⟩ := rv.get hx
        exact ⟨its, fun _ => ⟨xs, x, u, hq, hx, p, hu, ru⟩⟩
      · exact ⟨[], fun h => absurd h hk⟩
    obtain ⟨its, hits⟩ := Classical.skolem.mp key
    have hzl : z < s.heap.objs.size := by obtain ⟨v, f, hz, _⟩ := hz; exact Heap.lt_size hz
    refine wpAny_pyNext_zipA_item (prog := X.prog) (w := X.w) (A := X.A) D (fun k hk => drawsK (kd k) hh (is k) (ad k) (na k hk) (its k).toArray) hN hN2 hz hTI hTO h0 (fun k hk => ⟨hs k hk, ?_⟩) (fun k hk => ?_) fun arr h' tk ha hx hz' hTO' hs' hT hsz hkp => ?_
    · obtain ⟨xs, x, u, _, _, p, _⟩ := hits k hk; exact p
    · obtain ⟨xs, x, u, _, _, _, hu, _⟩ := hits k hk
      have := (List.getElem?_eq_some_iff.mp hu).1
      simpa using this
    refine ⟨_, rfl, go_zipA (s := { s with heap := h', toks := tk }) hz' fun h'' hz'' sb => ?_⟩
    replace sb : Heap.SameBut z h' h'' := sb
    have hT : IsTupN h'' s.heap.objs.size arr := sb.extBut _ _ (Nat.ne_of_gt hzl) hT
    have key2 : ∀ k, ∃ y : V, k < N → ∃ xs u, SqK X.K (kd k) H (ad k) xs ∧ xs[i]? = some y ∧ arr[k]? = some u ∧ RelV y u := fun k => by
      by_cases hk : k < N
      · obtain ⟨xs, x, u, hq, hxx, p, hu, ru⟩ := hits k hk
        obtain ⟨v, hv, hv2⟩ := hx k hk
        have : (its k).toArray[i]? = some v := hv2
        rw [show (its k).toArray[i]? = some u by simpa using hu] at this
        cases this
        exact ⟨x, fun _ => ⟨xs, u, hq, hxx, hv, ru⟩⟩
      · exact ⟨.non, fun h => absurd h hk⟩
    obtain ⟨y, hy⟩ := Classical.skolem.mp key2
    have hyg : ∀ k, k < N → ((List.range N).map y)[k]? = some (y k) := fun k hk => by rw [List.getElem?_map, List.getElem?_range hk]; rfl
    have new : ObjOk X.prog X.w (upd H s.heap.objs.size (.frz { cls := .type "tuple", data := .seq arr } (.tup ((List.range N).map y)))) h'' s.heap.objs.size (.frz { cls := .type "tuple", data := .seq arr } (.tup ((List.range N).map y))) := by
      have sl : (1000 : Nat) ≤ sizeLine := by decide
      refine ⟨hT, by simp; omega, arr.toList, vals_of (by simp [ha]) fun k v u e1 e2 => ?_, ⟨_, (by simpa using hT : IsTupN h'' s.heap.objs.size arr.toList.toArray), rfl, _, rfl⟩⟩
      have hk : k < N := by
        have := (List.getElem?_eq_some_iff.mp e1).1
        simpa using this
      rw [hyg k hk] at e1
      cases e1
      obtain ⟨xs, u', _, _, h3, h4⟩ := hy k hk
      rw [Array.getElem?_toList, h3] at e2
      cases e2
      exact h4
    have I1 : Inv X pins σ (upd H s.heap.objs.size (.frz { cls := .type "tuple", data := .seq arr } (.tup ((List.range N).map y)))) { s with heap := h'', toks := tk } :=
      I.turnedNew (t' := tk) (ch := z :: TI :: TO :: (List.range N).map is) (fun c o hb q => sb.extBut _ _ (fun e => hb (by simp [e])) (hkp c o (fun e => hb (by simp [e])) (fun e => hb (by simp [e])) (fun k hk e => hb (by simp; exact .inr (.inr (.inr ⟨k, hk, e.symm⟩)))) q)) hf (Nat.le_refl _) new
    refine ⟨.ref s.heap.objs.size, _, I1, rfl, ⟨_, _, _, rfl, I.hok.fresh (Nat.le_refl _), rfl, rfl, by simp, fun k hk xs hq => ?_⟩, ⟨hz'', ?_, ?_, fun k hk => ?_⟩, fun d hcm => ?_⟩
    · obtain ⟨xs', u, h1, h2, _, _⟩ := hy k hk
      rw [injK I hq h1]
      exact ⟨_, h2, hyg k hk⟩
    · exact sb.extBut _ _ D.TIz (hkp TI _ D.TIz D.TITO (fun k hk => D.TIi k hk) hTI)
    · obtain ⟨a1, g1, g2⟩ := hTO'
      exact ⟨a1, g1, sb.extBut _ _ D.TOz g2⟩
    · exact (hs' k hk).1.at' fun o q => sb.extBut _ _ (fun e => D.zf k hk (by rw [← e]; exact D.mem k hk)) q
    · have hlt : d < s.heap.objs.size := by
        have e' : d = z ∨ d = TI ∨ d = TO ∨ ∃ k, k < N ∧ is k = d := by simpa using hcm
        rcases e' with q | q | q | ⟨k, hk, q⟩
        · rw [q]; exact hzl
        · rw [q]; exact Heap.lt_size hTI
        · rw [q]; exact Heap.lt_size hTO
        · obtain ⟨_, e1, _⟩ := (hs k hk).ob; rw [← q]; exact Heap.lt_size e1
      rw [upd_ne (Nat.ne_of_lt hlt)]
      exact (hf d hcm).1
  done := by
    intro X hP hw hK hc i pins s σ H E I hf st hg
    subst hP hw hK
    obtain ⟨hz, hTI, ⟨a0, h0, hTO⟩, hs⟩ := st
    have hh : X.A.in1.handled = none := I.ok.hd hc
    have key : ∀ k, ∃ its : List Value, k < N → DaK (kd k) s.heap (ad k) its.toArray ∧ i = its.toArray.size := fun k => by
      by_cases hk : k < N
      · obtain ⟨xs, hq, hi⟩ := hg k hk
        obtain ⟨its, rv, p, _⟩ := seqK I hq
        exact ⟨its, fun _ => ⟨p, by rw [hi, rv.length]; simp⟩⟩
      · exact ⟨[], fun h => absurd h hk⟩
    obtain ⟨its, hits⟩ := Classical.skolem.mp key
    exact wpAny_pyNext_zipA_end (prog := X.prog) (w := X.w) (A := X.A) D (fun k hk => drawsK (kd k) hh (is k) (ad k) (na k hk) (its k).toArray) hN hz hTI hTO (fun k hk => ⟨hs k hk, (hits k hk).1⟩) (hits 0 hN).2 fun h' tk hkp => ⟨rfl, I.turnedL (t' := tk) (ch := z :: TI :: TO :: (List.range N).map is) (fun c o hb q =>
      hkp c o (fun e => hb (by simp [e])) (fun e => hb (by simp [e])) (fun k hk e => hb (by simp; exact .inr (.inr (.inr ⟨k, hk, e.symm⟩)))) q) hf⟩
  self := fun A i s Q E st h => by
    obtain ⟨⟨v, f, hz, _⟩, _⟩ := st
    exact wpAny_pyIter_zipF hz h
def kdL (ks : List (Bool × Addr)) (k : Nat) : Bool := ((ks[k]?).getD (false, 0)).1
def adL (ks : List (Bool × Addr)) (k : Nat) : Addr := ((ks[k]?).getD (false, 0)).2
def refsL (ks : List (Bool × Addr)) : List V := ks.map fun q => .ref q.2
theorem vals_refs : ∀ {ks : List (Bool × Addr)} {us : List Value}, Vals (refsL ks) us → us = ks.map fun q => .ref q.2
  | [], _, .nil => rfl
  | q :: ks, _, .cons r rr => by
    cases r
    rw [vals_refs (ks := ks) rr]; rfl
def AllSq (K : PySem.W.Frag) (H : Hp) (ks : List (Bool × Addr)) : Prop := ∀ k, k < ks.length → ∃ xs, SqK K (kdL ks k) H (adL ks k) xs
theorem zsepN (n N : Nat) (ad : Nat → Nat) (h : ∀ k, k < N → ad k < n) : ZipSepN (n + N + 2) (n + N) (n + N + 1) N (fun k => n + k) fun k => [n + k, ad k] where
  TIz := by show ¬ (n + N = n + N + 2); omega
  TOz := by show ¬ (n + N + 1 = n + N + 2); omega
  TITO := by show ¬ (n + N = n + N + 1); omega
  TIi := fun k hk => by show ¬ (n + N = n + k); omega
  mem := fun k hk => by simp
  zf := fun k hk e => by
    have := h k hk
    rcases List.mem_cons.mp e with e | e
    · have e : n + N + 2 = n + k := e
      omega
    · have e : n + N + 2 = ad k := by simpa using e
      omega
  Tf := fun k hk e => by
    have := h k hk
    rcases List.mem_cons.mp e with e | e
    · have e : n + N + 1 = n + k := e
      omega
    · have e : n + N + 1 = ad k := by simpa using e
      omega
  sep := fun j k hj hk hne e => by
    have := h k hk
    rcases List.mem_cons.mp e with e | e
    · have e : n + j = n + k := e
      omega
    · have e : n + j = ad k := by simpa using e
      omega
theorem zipN_call {X : Cx} {tg : Expr} {pins : List (Addr × Obj)} {σ : L2.St} {R : It → Hp → Prop} {s1 : Shared} {H1 : Hp} {ks : List (Bool × Addr)} {us : List Value} (I1 : Inv X pins σ H1 s1) (rv : Vals (refsL ks) us) (h0 : ks ≠ []) (h21 : ks.length ≤ 21) (hq : AllSq X.K H1 ks)
    (q : R (ItzN X.K ks.length (kdL ks) (adL ks)) H1) : wpAny (model X.prog X.w) X.A (call (.type "zip") us) (fun v s2 => wpAny (model X.prog X.w) X.A (pyIter v) (PIE X pins σ tg R) X.xe s2) X.xe s1 := by
  have hN : 0 < ks.length := List.length_pos_iff.mpr h0
  rw [vals_refs rv]
  have ug : ∀ k, k < ks.length → (ks.map fun q => Value.ref q.2)[k]? = some (.ref (adL ks k)) := fun k hk => by
    rw [List.getElem?_map, adL, List.getElem?_eq_getElem hk]; rfl
  have og : ∀ k, k < ks.length → (ks.map fun q => obK q.1 q.2)[k]? = some (obK (kdL ks k) (adL ks k)) := fun k hk => by
    rw [List.getElem?_map, adL, kdL, List.getElem?_eq_getElem hk]; rfl
  have key : ∀ k, ∃ its : List Value, k < ks.length → DaK (kdL ks k) s1.heap (adL ks k) its.toArray ∧ adL ks k < s1.heap.objs.size := fun k => by
    by_cases hk : k < ks.length
    · obtain ⟨xs, hx⟩ := hq k hk
      obtain ⟨its, _, p, l⟩ := seqK I1 hx
      exact ⟨its, fun _ => ⟨p, l⟩⟩
    · exact ⟨[], fun h => absurd h hk⟩
  obtain ⟨its, hits⟩ := Classical.skolem.mp key
  refine zip_beginsN (vs := ks.map fun q => Value.ref q.2) (os := ks.map fun q => obK q.1 q.2) (H := fun k h => DaK (kdL ks k) h (adL ks k) (its k).toArray) (by simp) (by simpa using h21) (fun k v o e1 e2 => ?_) (fun k hk => (hits k (by simpa using hk)).1) fun h' hz hTI hTO hb hsz hk => ?_
  · have hk : k < ks.length := by
      have := (List.getElem?_eq_some_iff.mp e1).1
      simpa using this
    rw [ug k hk] at e1
    rw [og k hk] at e2
    cases e1; cases e2
    exact beginsK _ _ _
  · simp only [List.length_map] at hz hTI hTO hsz ⊢
    refine wpAny_pyIter_zip hz ?_
    have I2 : Inv X pins σ H1 { s1 with heap := h' } := I1.kept (t' := s1.toks) hk
    have D := zsepN s1.heap.objs.size ks.length (adL ks) fun k hk => (hits k hk).2
    refine ⟨_, _, _, _, H1, rfl, I2, turn_zipN (tg := tg) hN (by omega) D (fun k hk => Nat.ne_of_lt (Nat.lt_of_lt_of_le (hits k hk).2 (Nat.le_add_right _ _))), ⟨⟨_, _, hz, .inl rfl⟩, hTI, ⟨_, by simp, hTO⟩, fun k hk' => itK0 (hb k _ (og k hk'))⟩, fun d hcm => ?_, q⟩
    have hle : s1.heap.objs.size ≤ d := by
      have e' : d = s1.heap.objs.size + ks.length + 2 ∨ d = s1.heap.objs.size + ks.length ∨ d = s1.heap.objs.size + ks.length + 1 ∨ ∃ k, k < ks.length ∧ s1.heap.objs.size + k = d := by simpa using hcm
      rcases e' with q | q | q | ⟨k, _, q⟩
      · rw [q]; exact Nat.le_trans (Nat.le_add_right _ _) (Nat.le_add_right _ _)
      · rw [q]; exact Nat.le_add_right _ _
      · rw [q]; exact Nat.le_trans (Nat.le_add_right _ _) (Nat.le_add_right _ _)
      · rw [← q]; exact Nat.le_add_right _ _
    exact I1.fpOk hle (I1.hok.fresh hle)
def iZipN2 (K : PySem.W.Frag) (ta : TA) : TI := fun σ H R => ta σ H fun vs H1 => ∃ ks, vs = refsL ks ∧ ks ≠ [] ∧ ks.length ≤ 21 ∧ AllSq K H1 ks ∧ R (ItzN K ks.length (kdL ks) (adL ks)) H1
theorem pi_zipN2 {X : Cx} {e e2 : Expr} {ta : TA} {tg : Expr} {p pos : Pos} (hg : Gl X "zip") (hm : X.mg "zip" = none) (ha : PA X [e, e2] ta)
    (hs : starEach [e, e2] X.env = (false, eval e X.env) :: starEach [e2] X.env := by rfl) (hpl : (backTo pos (starEach [e2] X.env)).any (·.1) = false := by rfl) :
    PI X tg (.Call (.Name "zip" p) [e, e2] [] pos) (iZipN2 X.K ta) := by
  refine ⟨fun pins s σ H R I h => ?_⟩
  refine Call_ (ld_blt I hg hm PyProof.Rows.boot_zip (PyProof.Rows.callWith_type1 (thn (ha.run pos pins s σ H _ I h) fun us s1 ⟨vs, H1, I1, r1, q1⟩ => ?_) hs hpl))
  obtain ⟨ks, ex, h0, h21, hq, q⟩ := q1
  subst ex
  exact zipN_call I1 r1 h0 h21 hq q
def iZipS (K : PySem.W.Frag) (t : TE) : TI := fun σ H R => t σ H fun v H1 => ∃ a ks, v = .ref a ∧ (SqT K H1 a (refsL ks) ∨ SqL K H1 a (refsL ks)) ∧ ks ≠ [] ∧ ks.length ≤ 21 ∧ AllSq K H1 ks ∧ R (ItzN K ks.length (kdL ks) (adL ks)) H1
theorem callWith_typeS {M : Model} {A : Around} {E : Value → Shared → Prop} {s : Shared} {pos : Pos} {T : String} {first : List Value} {args : List (Bool × Sem Value)} {Q : Value → Shared → Prop} (hst : args.any (·.1) = true)
    (h : wpAny M A (evalArgs (.type T) true args []) (fun a s₁ => wpAny M A (call (.type T) (first ++ a.pos) a.kw) Q E s₁) E s) :
    wpAny M A (callWith pos (.type T) first args []) Q E s := by
  unfold callWith
  refine wpAny_bind (wpAny_holding (wpAny_mono h (fun a s₁ h₁ => wpAny_bind (wpAny_standAt ?_)) fun _ _ x => x))
  simp only [hst, Bool.true_or]
  refine wpAny_bind (wpAny_pure ?_)
  exact wpAny_bind (wpAny_operating (wpAny_mono h₁ (fun r s₂ hr => wpAny_bind (wpAny_holding (wpAny_point (wpAny_pure hr)))) fun _ _ x => x))
theorem pi_zipS {X : Cx} {e : Expr} {t : TE} {tg : Expr} {p ps pos : Pos} (hg : Gl X "zip") (hm : X.mg "zip" = none) (he : PE X e t) : PI X tg (.Call (.Name "zip" p) [.Starred e ps] [] pos) (iZipS X.K t) := by
  refine ⟨fun pins s σ H R I h => ?_⟩
  refine Call_ (ld_blt I hg hm PyProof.Rows.boot_zip (callWith_typeS rfl (PySem.W.ks_lone (thn (he.run pins s σ H _ I h) fun v s1 ⟨y, H1, I1, ry, a, ks, ey, hx, h0, h21, hq, q⟩ => ?_))))
  subst ey
  obtain rfl : v = Value.ref a := ry
  exact StX.star_any I1 hx fun us s2 I2 rv => zipN_call I2 rv h0 h21 hq q
end Rf

namespace Rf
open PySem PySem.Spec PyProof.Rows L2
def allSeq : List PyData → Option (List (List PyData))
  | [] => some []
  | d :: ds => match seqD d with
    | some e => match allSeq ds with
      | some es => some (e :: es)
      | none => none
    | none => none
def zipNd (n : Nat) (dss : List (List PyData)) : List PyData := (List.range n).map fun i => .tuple (dss.map fun ds => (ds[i]?).getD .none)
def zipD (ds : List PyData) : Option (List PyData) := match allSeq ds with
  | some (e :: es) => if es.length ≤ 20 ∧ es.all (fun x => x.length == e.length) = true then some (zipNd e.length (e :: es)) else none
  | _ => none
theorem zipNd_len {n : Nat} {dss : List (List PyData)} : (zipNd n dss).length = n := by simp [zipNd]
theorem zipNd_get {n i : Nat} {dss : List (List PyData)} {d : PyData} (h : (zipNd n dss)[i]? = some d) : i < n ∧ d = .tuple (dss.map fun ds => (ds[i]?).getD .none) := by
  have hi : i < n := by
    have := (List.getElem?_eq_some_iff.mp h).1
    rwa [zipNd_len] at this
  refine ⟨hi, ?_⟩
  rw [zipNd, List.getElem?_map, List.getElem?_range hi] at h
  simpa using h.symm
section
variable {K : PySem.W.Frag} {F F' G H H' : Hp}
theorem dqAll_of : ∀ {ys : List V} {ds : List PyData}, ys.length = ds.length → (∀ (k : Nat) (y : V) (d : PyData), ys[k]? = some y → ds[k]? = some d → Dq K F y d) → DqAll K F ys ds
  | [], [], _, _ => .nil
  | [], _ :: _, h, _ => by simp at h
  | _ :: _, [], h, _ => by simp at h
  | y :: ys, d :: ds, h, g => .cons (g 0 y d rfl rfl) (dqAll_of (by simpa using h) fun k y' v' e1 e2 => g (k + 1) y' v' (by simpa using e1) (by simpa using e2))
def KsOk (K : PySem.W.Frag) (F : Hp) (ks : List (Bool × Addr)) (dss : List (List PyData)) : Prop := ks.length = dss.length ∧ ∀ (k : Nat) (ds : List PyData), dss[k]? = some ds → ∃ xs, SqK K (kdL ks k) F (adL ks k) xs ∧ DqAll K F xs ds
theorem ks_of : ∀ {vs : List V} {ds : List PyData} {dss : List (List PyData)}, DqAll K F vs ds → allSeq ds = some dss → ∃ ks, vs = refsL ks ∧ KsOk K F ks dss
  | _, _, _, .nil, e => by
    cases e
    exact ⟨[], rfl, rfl, fun k ds h => by simp at h⟩
  | _, d :: ds, dss, .cons h r, e => by
    unfold allSeq at e
    split at e
    · rename_i e1 q1
      split at e
      · rename_i es q2
        cases e
        obtain ⟨k, a, xs, rfl, _, s1, r1⟩ := sqK_of (Same.refl _) h q1
        obtain ⟨ks, rfl, hl, hk⟩ := ks_of r q2
        refine ⟨(k, a) :: ks, rfl, by simp [hl], fun j ds' hj => ?_⟩
        cases j with
        | zero =>
          have e' : e1 = ds' := by simpa using hj
          subst e'
          exact ⟨xs, s1, r1⟩
        | succ j =>
          obtain ⟨xs', s2, r2⟩ := hk j ds' (by simpa using hj)
          exact ⟨xs', s2, r2⟩
      · cases e
    · cases e
theorem KsOk.mono {ks : List (Bool × Addr)} {dss : List (List PyData)} (s : Same F F') (h : KsOk K F ks dss) : KsOk K F' ks dss := ⟨h.1, fun k ds e => by
  obtain ⟨xs, h1, h2⟩ := h.2 k ds e
  exact ⟨xs, sqK_mono s h1, dpAll_mono s h2⟩⟩
theorem KsOk.all {ks : List (Bool × Addr)} {dss : List (List PyData)} (h : KsOk K F ks dss) : AllSq K F ks := fun k hk => by
  obtain ⟨ds, hd⟩ := get_lt (l := dss) (i := k) (by rw [← h.1]; exact hk)
  obtain ⟨xs, h1, _⟩ := h.2 k ds hd
  exact ⟨xs, h1⟩
theorem itok_zipN {ks : List (Bool × Addr)} {dss : List (List PyData)} {n : Nat} (hk : KsOk K F ks dss) (hn : ∀ (k : Nat) (ds : List PyData), dss[k]? = some ds → ds.length = n) : ItOk (Dq K) F (ItzN K ks.length (kdL ks) (adL ks)) (zipNd n dss) where
  go := fun i H s h k hkl => by
    rw [zipNd_len] at h
    obtain ⟨ds, hd⟩ := get_lt (l := dss) (i := k) (by rw [← hk.1]; exact hkl)
    obtain ⟨xs, h1, h2⟩ := hk.2 k ds hd
    obtain ⟨x, hx⟩ := get_lt (l := xs) (i := i) (by rw [dpAll_len h2, hn k ds hd]; exact h)
    exact ⟨xs, x, sqK_mono s h1, hx⟩
  stop := fun H s k hkl => by
    obtain ⟨ds, hd⟩ := get_lt (l := dss) (i := k) (by rw [← hk.1]; exact hkl)
    obtain ⟨xs, h1, h2⟩ := hk.2 k ds hd
    exact ⟨xs, sqK_mono s h1, by rw [zipNd_len, dpAll_len h2, hn k ds hd]⟩
  yld := fun i d Fc H x H' hd s1 s2 y => by
    obtain ⟨T, ys, o, rfl, hT, ho, rfl, hl, hy⟩ := y
    obtain ⟨hi, rfl⟩ := zipNd_get hd
    have g : Grow Fc H _ _ := Grow.one (o := .frz o (.tup ys)) s2 hT
    refine ⟨_, g, .tup ⟨.inl (.inr ⟨o, upd_same⟩), .inl ⟨o, upd_same, ho⟩⟩ (dqAll_of (by rw [hl, List.length_map, hk.1]) fun k y e e1 e2 => ?_)⟩
    have hkl : k < ks.length := by
      have := (List.getElem?_eq_some_iff.mp e1).1
      omega
    obtain ⟨ds, hd'⟩ := get_lt (l := dss) (i := k) (by rw [← hk.1]; exact hkl)
    obtain ⟨xs, h1, h2⟩ := hk.2 k ds hd'
    obtain ⟨x, hx, hyx⟩ := hy k hkl xs (sqK_mono (s1.trans s2) h1)
    rw [hyx] at e1; cases e1
    rw [List.getElem?_map, hd'] at e2
    obtain ⟨e', he'⟩ := get_lt (l := ds) (i := i) (by rw [hn k ds hd']; exact hi)
    have e3 : e' = e := by simpa [he'] using e2
    subst e3
    obtain ⟨v, hv, hq⟩ := dpAll_get h2 he'
    rw [hx] at hv; cases hv
    exact dp_mono (s1.trans g.same) hq
theorem zipD_ok {vs : List V} {ds es : List PyData} (r : DqAll K F vs ds) (e : zipD ds = some es) : ∃ ks, vs = refsL ks ∧ ks ≠ [] ∧ ks.length ≤ 21 ∧ AllSq K F ks ∧ ItOk (Dq K) F (ItzN K ks.length (kdL ks) (adL ks)) es := by
  unfold zipD at e
  split at e
  · rename_i e1 es1 q
    split at e
    · rename_i hc
      cases e
      obtain ⟨ks, rfl, hk⟩ := ks_of r q
      have hl : ks.length = es1.length + 1 := by rw [hk.1]; rfl
      refine ⟨ks, rfl, fun z => by rw [z] at hl; simp at hl, by omega, hk.all, itok_zipN hk fun k ds hd => ?_⟩
      cases k with
      | zero =>
        have e' : e1 = ds := by simpa using hd
        rw [e']
      | succ k =>
        have hm : ds ∈ es1 := List.mem_of_getElem? (by simpa using hd)
        have := List.all_eq_true.mp hc.2 ds hm
        simpa using this
    · cases e
  · cases e
end
theorem AllSq.mono {K : PySem.W.Frag} {F F' : Hp} {ks : List (Bool × Addr)} (s : Same F F') (h : AllSq K F ks) : AllSq K F' ks := fun k hk => by
  obtain ⟨xs, h1⟩ := h k hk
  exact ⟨xs, sqK_mono s h1⟩
def iZpN (m : MA) : MI := fun fm => match m fm with
  | some (vs, fm1) => match frzAll vs fm1 with
    | some (ds, fm2) => match zipD ds with
      | some es => some (es, fm2)
      | none => none
    | none => none
  | none => none
def iZpS (m : ME) : MI := fun fm => match m fm with
  | some (v, fm1) => match frz v fm1 with
    | some (d, fm2) => match seqD d with
      | some ds => match zipD ds with
        | some es => some (es, fm2)
        | none => none
      | none => none
    | none => none
  | none => none
section
variable {X : Cx} {a b e tg : Expr} {p1 ps pos : Pos}
theorem si_zipN2 {m : MA} (hg : Gl X "zip") (hm : X.mg "zip" = none) (ha : SA X [a, b] m) (hs : starEach [a, b] X.env = (false, eval a X.env) :: starEach [b] X.env := by rfl) (hpl : (backTo pos (starEach [b] X.env)).any (·.1) = false := by rfl) : SI X (Dq X.K) tg (.Call (.Name "zip" p1) [a, b] [] pos) (iZpN m) :=
  pi_le (pi_zipN2 hg hm ha hs hpl) fun σ H R ⟨F, fm, ds, fm', rel, em, q⟩ => by
    unfold iZpN at em
    split at em
    · rename_i vs fm1 e1
      refine ⟨F, fm, _, fm1, rel, e1, fun xs F1 H1 A V N => ?_⟩
      split at em
      · rename_i ds' fm2 e2
        split at em
        · rename_i es e3
          cases em
          obtain ⟨F2, A2, D2⟩ := aft_frzAll A V N e2
          obtain ⟨ks, h1, h2, h3, h4, h5⟩ := zipD_ok D2 e3
          exact ⟨ks, h1, h2, h3, h4.mono A2.rel.sub, q _ F2 H1 A2 h5⟩
        · cases em
      · cases em
    · cases em
theorem si_zipS {m : ME} (hg : Gl X "zip") (hm : X.mg "zip" = none) (he : SE X e m) : SI X (Dq X.K) tg (.Call (.Name "zip" p1) [.Starred e ps] [] pos) (iZpS m) :=
  pi_le (pi_zipS hg hm he) fun σ H R ⟨F, fm, ds, fm', rel, em, q⟩ => by
    unfold iZpS at em
    split at em
    · rename_i v fm1 e1
      refine ⟨F, fm, _, fm1, rel, e1, fun y F1 H1 A V N => ?_⟩
      split at em
      · rename_i d fm2 e2
        split at em
        · rename_i ds' e3
          split at em
          · rename_i es e4
            cases em
            obtain ⟨F2, A2, D2⟩ := A.frz V N e2
            obtain ⟨k, ad, xs, rfl, s1, t1, r1⟩ := sqK_of A2.rel.sub D2 e3
            obtain ⟨ks, rfl, h2, h3, h4, h5⟩ := zipD_ok r1 e4
            refine ⟨ad, ks, rfl, ?_, h2, h3, h4.mono A2.rel.sub, q _ F2 H1 A2 h5⟩
            cases k
            · exact .inr s1
            · exact .inl s1
          · cases em
        · cases em
      · cases em
    · cases em
def iZp (m : MA) : MI := fun fm => match iZp0 m fm with
  | some r => some r
  | none => iZpN m fm
theorem pi_or {iter : Expr} {t1 t2 : TI} (h1 : PI X tg iter t1) (h2 : PI X tg iter t2) : PI X tg iter fun σ H R => t1 σ H R ∨ t2 σ H R := ⟨fun pins s σ H R I h => h.elim (h1.run pins s σ H R I) (h2.run pins s σ H R I)⟩
theorem itok_dw {K : PySem.W.Frag} {F : Hp} {J : It} {ds : List PyData} (h : ItOk (Dq K) F J ds) : ItOk (Dw K) F J ds := ⟨h.go, h.stop, fun i d Fc H x H' a b c e => by
  obtain ⟨F2, g, r⟩ := h.yld i d Fc H x H' a b c e
  exact ⟨F2, g, .inl r⟩⟩
theorem si_zipM {m : MA} {elts : List Expr} {kk : Nat} {tpos : Pos} (hg : Gl X "zip") (hm : X.mg "zip" = none) (ha : SA X [a, b] m) (hs : starEach [a, b] X.env = (false, eval a X.env) :: starEach [b] X.env := by rfl) (hpl : (backTo pos (starEach [b] X.env)).any (·.1) = false := by rfl) : SI X (Dw X.K) (.Tuple elts kk tpos) (.Call (.Name "zip" p1) [a, b] [] pos) (iZp m) :=
  pi_le (pi_or (si_zip hg hm ha hs hpl) (si_zipN2 hg hm ha hs hpl)) fun σ H R ⟨F, fm, ds, fm', rel, em, q⟩ => by
    unfold iZp at em
    split at em
    · rename_i r hr
      cases em
      exact .inl ⟨F, fm, ds, fm', rel, hr, q⟩
    · exact .inr ⟨F, fm, ds, fm', rel, em, fun J F' H' A ok => q J F' H' A (itok_dw ok)⟩
end
end Rf

namespace Rf
open PySem PySem.Spec PyProof.Rows L2
structure XC (K : PySem.W.Frag) (C : Addr) (B newId initId : String) (bmB : List Value) : Prop where
  fb : ExcBaseFacts B newId initId bmB
  fs : StoreFacts B bmB "object.__setattr__" "object"
  q : PySem.W.excInitIn K C bmB newId = true
  ov : PySem.W.excOver K C bmB = true
  hd : PySem.W.hasDictIn K C = true
  sa : PySem.W.findIn K (.ref C) "__setattr__" = some (some (.builtin "object.__setattr__"))
  ex : PySem.W.subIn K (.ref C) (.type "BaseException") = some true
  ty : PySem.W.typeIn K (.ref C) = some (.type "type")
  kp : PySem.W.keepIn K (.ref C) = true
structure XA (K : PySem.W.Frag) (C : Addr) : Prop where
  cl : (PySem.W.clsIn K C).isSome = true
  ga : PySem.W.findIn K (.ref C) "__getattribute__" = some (some (.builtin "BaseException.__getattribute__"))
  gg : PySem.W.findIn K (.ref C) "__getattr__" = some none
  ex : PySem.W.subIn K (.ref C) (.type "BaseException") = some true
  hd : PySem.W.hasDictIn K C = true
  ca : PySem.W.findIn K (.ref C) "__class__" = some (some (.builtin "object.__class__"))
  sp : PySem.W.specialIn K (.builtin "object.__class__") "__get__" = some (some (.builtin "getset_descriptor.__get__"))
  tk : PySem.W.takesIn K (.builtin "object.__class__") = some true
  mo : PySem.W.mroIn K C (.type "object") = some true
def spIn (K : PySem.W.Frag) (f : Str) : Sp := fun vs H Q _ => ∃ (a C : Addr) (v : V) (B newId initId : String) (bmB : List Value), vs = [.ref a, v] ∧ XC K C B newId initId bmB ∧ PySem.W.findIn K (.ref C) f = some none ∧ H a = some (exo a C none) ∧
  ∀ dx, H dx = none → dx ≠ a → Q .non (upd (upd H dx (exd dx [(f, v)])) a (exo a C (some dx)))
structure XR where
  nm : Str
  fld : Option Str
  up : List Str
def findX (x : Str) : List XR → Option XR
  | [] => none
  | r :: rs => if r.nm = x then some r else findX x rs
def exTys : List String := ["LookupError", "ValueError", "RuntimeError", "OverflowError", "IndexError", "NotImplementedError", "KeyError"]
def exTy (x : Str) : Option String := (exTys.find? fun t => decide ((t : Str) = x))
def isB (xs : List XR) (T nm : Str) : Option Bool := match findX nm xs with
  | some r => match findX T xs with
    | some _ => some (decide (T = nm))
    | none => match exTy T with
      | some _ => some (r.up.contains T)
      | none => none
  | none => none
def isBs (xs : List XR) : List Str → Str → Option Bool
  | [], nm => (findX nm xs).map fun _ => false
  | T :: Ts, nm => match isB xs T nm with
    | some true => some true
    | some false => isBs xs Ts nm
    | none => none
def fldOf (xs : List XR) (nm : Str) : Option Str := (findX nm xs).bind (·.fld)
structure XOk (X : Cx) (xs : List XR) (r : XR) (C : Addr) : Prop where
  mg : X.mg r.nm = some (.ref C)
  ns : PySem.W.nsIn X.K mainGlobals r.nm = some (some (.ref C))
  xa : XA X.K C
  ini : ∀ f, r.fld = some f → Room 2 X.A ∧ PySem.W.findIn X.K (.ref C) f = some none ∧ ∃ (B newId initId : String) (bmB : List Value) (fI : Addr) (fd : FuncData), XC X.K C B newId initId bmB ∧ PySem.W.findIn X.K (.ref C) "__init__" = some (some (.ref fI)) ∧ PySem.W.typeIn X.K (.ref fI) = some (.type "function") ∧
    FnOk X.prog X.w X.K X.mg X.base CX0 1 fI fd ["self", f] (spIn X.K f) ∧ Binds X.K fd ["self", f] []
  bare : r.fld = none → ∃ (B newId initId : String) (bmB : List Value), ExcBaseFacts B newId initId bmB ∧ PySem.W.excIn X.K C bmB newId = true ∧ PySem.W.keepIn X.K (.ref C) = true ∧ PySem.W.subIn X.K (.ref C) (.type "BaseException") = some true ∧ PySem.W.typeIn X.K (.ref C) = some (.type "type")
  bi : ∀ T ∈ exTys, PySem.W.kitOne X.K (.ref C) (.type T) = some (r.up.contains (T : Str))
  ow : ∀ r' ∈ xs, ∀ C', PySem.W.nsIn X.K mainGlobals r'.nm = some (some (.ref C')) → PySem.W.kitOne X.K (.ref C) (.ref C') = some (decide (r'.nm = r.nm)) ∧ PySem.W.exmOne X.K (.ref C) (.ref C') = some (decide (r'.nm = r.nm))
def mRaise (nm f : Str) (ma : MA) : MS := fun fm => match ma fm with
  | some ([v], fm1) => match frz v fm1 with
    | some (d, fm2) => some (.ex ⟨nm, [(f, d)]⟩, fm2)
    | none => none
  | _ => none
def mRaise0 (nm : Str) : MS := fun fm => some (.ex ⟨nm, []⟩, fm)
def mTryC (nms : List Str) (i j : Nat) (m : MS) : MS := fun fm => match m fm with
  | some (.ex x, fm1) => if nms.contains x.nm = true then some (.nx, (fm1.set i (some (.own (.exc x.nm x.fs)))).set j none) else none
  | r => r
def mTryR (nms : List Str) (d : PyData) (m : MS) : MS := fun fm => match m fm with
  | some (.ex x, fm1) => if nms.contains x.nm = true then some (.rt (.dat d), fm1) else none
  | r => r
def excOf (v : SV) (fm : Fm) : Option Xc := match v with
  | .bor i => match fm[i]? with
    | some (some (.own (.exc nm fs))) => some ⟨nm, fs⟩
    | _ => none
  | _ => none
def mIsX (f : Str → Option Bool) (m : ME) : ME := fun fm => match m fm with
  | some (v, fm1) => match excOf v fm1 with
    | some xc => match f xc.nm with
      | some b => some (.dat (.bool b), fm1)
      | none => none
    | none => none
  | none => none
def mFld (t : Str → Option Str) (g : Str) (m : ME) : ME := fun fm => match m fm with
  | some (v, fm1) => match excOf v fm1 with
    | some ⟨nm, [(f, d)]⟩ => if t nm = some f ∧ f = g then some (.dat d, fm1) else none
    | _ => none
  | none => none
end Rf

namespace Rf
open PySem PySem.Spec PyProof.Rows L2

structure DI where
  ps : List Str
  D : Dm
  /-- by keywords: which of them each parameter gets -/
  kw : List Str → Option (List Nat)
  /-- it may raise -/
  rs : Bool
  /-- its last parameter's default is () -/
  df : Bool
structure Cc where
  N : List Str
  sc : Scope
  ro : List Nat
  fn : Str → Bool
  df : Str → Option DI
  bl : Str → Bool
  /-- names whose lists are changed: these are not frozen -/
  mu : Str → Bool
  /-- the exceptions -/
  xs : List XR
  /-- whole numbers of the module -/
  gk : List (Str × Int)
def visK : Option NameKind → Bool
  | some .local => true
  | some .cell => true
  | some .free => true
  | _ => false
def plainN (x : Str) : Bool := !(x == ("__debug__" : Str)) && !(x == ("__classdict__" : Str)) && !(x == ("__name__" : Str))
def Cc.slot (c : Cc) (x : Str) : Option Nat := if visK (c.sc.names.lookup x) && plainN x then c.N.findIdx? (· == x) else none
def Cc.sto (c : Cc) (x : Str) : Option Nat := match c.sc.names.lookup x with
  | some .local => match c.N.findIdx? (· == x) with
    | some i => if i ∈ c.ro then none else some i
    | none => none
  | some .cell => if c.fn x then (match c.N.findIdx? (· == x) with
    | some i => if i ∈ c.ro then none else some i
    | none => none) else none
  | _ => none
def Cc.loc (c : Cc) (x : Str) : Option Nat := match c.sc.names.lookup x with
  | some .local => match c.N.findIdx? (· == x) with
    | some i => if i ∈ c.ro then none else some i
    | none => none
  | _ => none
def Cc.glo (c : Cc) (x : Str) : Bool := (match c.sc.names.lookup x with
  | some .globalImplicit => true
  | _ => false) && plainN x
def Cc.blt (c : Cc) (x : Str) : Bool := c.glo x && c.bl x
def findK (x : Str) : List (Str × Int) → Option Int
  | [] => none
  | (y, i) :: r => if y = x then some i else findK x r
def Cc.con (c : Cc) (x : Str) : Option Int := if c.glo x then findK x c.gk else none
def dA (d : DI) (n : Nat) (m : MA) : MA := if d.df && (n != 0 && n + 1 == d.ps.length) then mDfl m else m

def mNo : ME := fun _ => none
def mNoT : MT := fun _ => none
def mNoS : MS := fun _ => none
def mNoA : MA := fun _ => none

def fIsX : F2 := fun va vb fm => match peek vb fm with
  | some .none => fIsN va vb fm
  | some (.bool _) => fIsB va vb fm
  | _ => none
def fIsY : F2 := fun va vb fm => match excOf va fm with
  | some _ => match peek vb fm with
    | some .none => some (.dat (.bool false), fm)
    | _ => none
  | none => fIsX va vb fm
def fNotY : F2 := fun va vb fm => match excOf va fm with
  | some _ => match peek vb fm with
    | some .none => some (.dat (.bool true), fm)
    | _ => none
  | none => fNotN va vb fm
def opF : Operator → Option F2
  | .Add => some fAddX
  | .Sub => some fSubX
  | .Mult => some fMulY
  | .Mod => some fMod
  | .FloorDiv => some fDiv
  | .Pow => some fPow
  | _ => none
def cmpF : CmpOp → Option F2
  | .Eq => some fEqX
  | .NotEq => some fNeX
  | .Lt => some fLt
  | .LtE => some fLe
  | .Gt => some fGt
  | .GtE => some fGe
  | .Is => some fIsY
  | .IsNot => some fNotY
  | .In => some fInX
  | .NotIn => some fNotInX
structure Lv where
  E : Cc → Expr → ME
  T : Cc → Expr → MT
  B : Cc → List Stmt → MS
def lv0 : Lv := ⟨fun _ _ => mNo, fun _ _ => mNoT, fun _ _ => mNoS⟩
section
variable (l : Lv)
def cA (c : Cc) : List Expr → MA
  | [] => mNil
  | e :: es => if isStar e then mNoA else mCons (l.E c e) (cA c es)
def cO (c : Cc) : Option Expr → MO
  | none => oNone
  | some e => oSome (l.E c e)
def cG1 (c : Cc) : Expr → Option MG
  | .Name x _ => (c.sto x).map gSet
  | .Subscript (.Name x _) (.Slice lo hi none _) _ => (c.slot x).map fun i => gSplice i (cO l c lo) (cO l c hi)
  | .Subscript (.Name x _) e _ => if isSlice e then none else (c.slot x).map fun i => gIx i (l.E c e)
  | _ => none
def cGs1 (c : Cc) : List Expr → Option MGs
  | [] => some gsNil
  | e :: es => if isStar e then none else match cG1 l c e, cGs1 c es with
    | some g, some r => some (gsCons g r)
    | _, _ => none
def cG2 (c : Cc) : Expr → Option MG
  | .Tuple es _ _ => (cGs1 l c es).map (gTupD es.length)
  | e => cG1 l c e
def cGs (c : Cc) : List Expr → Option MGs
  | [] => some gsNil
  | e :: es => if isStar e then none else match cG2 l c e, cGs c es with
    | some g, some r => some (gsCons g r)
    | _, _ => none
def cG (c : Cc) : Expr → Option MG
  | .Tuple es _ _ => (cGs l c es).map (gTupD es.length)
  | e => cG1 l c e
def cIw (c : Cc) : Expr → Option MI
  | .Call (.Name x _) args [] _ =>
    if x = "enumerate" ∧ c.blt x = true then (match args with
      | [e] => if isStar e then none else some (iEnm (cA l c [e]))
      | _ => none)
    else if x = "zip" ∧ c.blt x = true then (match args with
      | [a, b] => if isStar a || isStar b then none else some (iZp (cA l c [a, b]))
      | [a, b, d] => if isStar a || (isStar b || isStar d) then none else some (iZp3 (cA l c [a, b, d]))
      | _ => none)
    else none
  | _ => none
def cI (c : Cc) : Expr → MI
  | .Call (.Name x p) args [] p2 =>
    if x = "range" ∧ c.blt x = true then (match args with
      | [a] => if isStar a then (fun _ => none) else iRan (cA l c [a])
      | [a, b] => if isStar a || isStar b then (fun _ => none) else iRan2 (cA l c [a, b])
      | _ => fun _ => none)
    else iSeq (l.E c (.Call (.Name x p) args [] p2))
  | e => iSeq (l.E c e)
def ownOf (N : List Str) (scope : Scope) : List (Str × Nat) := scope.names.filterMap fun y => match y.2 with
  | .local => (N.findIdx? (· == y.1)).map fun i => (y.1, i)
  | .cell => (N.findIdx? (· == y.1)).map fun i => (y.1, i)
  | _ => none
def relS (scope sc : Scope) : Scope := { scope with names := scope.names.map fun (n, k) => if k == .free && sc.kind == .function && sc.names.lookup n == some .cell then (n, .cell) else (n, k) }
def Cc.comp (c : Cc) (scope : Scope) : Cc := { c with
  sc := relS scope c.sc, ro := (List.range c.N.length).filter fun i => !((ownOf c.N scope).map (·.2)).contains i, fn := fun x => scope.names.lookup x == some .cell }
def nm1 : Expr → Bool
  | .Name _ _ => true
  | _ => false
def nm2 : Expr → Bool
  | .Name _ _ => true
  | .Tuple es _ _ => es.all nm1
  | _ => false
def namesOnly : Expr → Bool
  | .Name _ _ => true
  | .Tuple es _ _ => es.all nm2
  | _ => false
def isTup : Expr → Bool
  | .Tuple _ _ _ => true
  | _ => false
def cT1 (c : Cc) : List Expr → MT
  | [] => fun fm => some (true, fm)
  | [e] => l.T c e
  | _ => mNoT
def itOf (c : Cc) (tg iter : Expr) : Option MI := match cIw l c iter with
  | some mi => if isTup tg then some mi else none
  | none => some (cI l c iter)
def nmOf : Expr → List Str
  | .Name x _ => [x]
  | _ => []
def nmOf2 : Expr → List Str
  | .Name x _ => [x]
  | .Tuple es _ _ => es.flatMap nmOf
  | _ => []
def tgNames : Expr → List Str
  | .Name x _ => [x]
  | .Tuple es _ _ => es.flatMap nmOf2
  | _ => []
def tgSlots (N : List Str) (tg : Expr) : List Nat := (tgNames tg).filterMap fun x => N.findIdx? (· == x)
def Cc.compR (c : Cc) (scope : Scope) (ws : List Nat) : Cc := { c.comp scope with ro := (List.range c.N.length).filter fun i => !ws.contains i }
def cIn (c : Cc) : Expr → Expr → Option MI
  | .Name _ _, .Call (.Name x _) [.Starred e _] [] _ => if x = "zip" ∧ c.blt x = true then some (iZpS (l.E c e)) else none
  | .Name _ _, .Call (.Name x _) [a, b] [] _ => if x = "zip" ∧ c.blt x = true then (if isStar a || isStar b then none else some (iZpN (cA l c [a, b]))) else none
  | _, _ => none
def cL (c : Cc) (elt : Expr) (scope : Scope) : List Comprehension → ME
  | [⟨tg, iter, ifs, is⟩] => if is = 0 ∧ blkC c.N c.sc scope (ownOf c.N scope) = true ∧ isSetD iter = false ∧ namesOnly tg = true then (match cG l (c.comp scope) tg with
      | some g => match cIn l c tg iter with
        | some mi => mLc c.N.length mi g (cT1 l (c.comp scope) ifs) (l.E (c.comp scope) elt) ((ownOf c.N scope).map (·.2))
        | none => match cIw l c iter with
          | some mi => if isTup tg then mLc c.N.length mi g (cT1 l (c.comp scope) ifs) (l.E (c.comp scope) elt) ((ownOf c.N scope).map (·.2)) else mNo
          | none => mLc c.N.length (cI l c iter) g (cT1 l (c.comp scope) ifs) (l.E (c.comp scope) elt) ((ownOf c.N scope).map (·.2))
      | none => mNo) else mNo
  | [⟨tg, iter, ifs, is⟩, ⟨tg1, iter1, ifs1, is1⟩] => if is = 0 ∧ is1 = 0 ∧ blkC c.N c.sc scope (ownOf c.N scope) = true ∧ isSetD iter = false ∧ isSetD iter1 = false ∧ namesOnly tg = true ∧ namesOnly tg1 = true ∧ (∀ i ∈ tgSlots c.N tg1, i ∈ (ownOf c.N scope).map (·.2)) then (match cG l (c.comp scope) tg, cG l (c.compR scope (tgSlots c.N tg1)) tg1, itOf l c tg iter, itOf l (c.comp scope) tg1 iter1 with
      | some g, some g1, some mi, some mi1 => mLc2 c.N.length mi g (cT1 l (c.comp scope) ifs) mi1 g1 (cT1 l (c.comp scope) ifs1) (l.E (c.comp scope) elt) ((ownOf c.N scope).map (·.2)) (tgSlots c.N tg1)
      | _, _, _, _ => mNo) else mNo
  | _ => mNo

def bltTab : List (Str × Nat × FA) := [("len", 1, fLen), ("abs", 1, fAbs), ("int", 1, fInt), ("min", 1, fMinX), ("min", 2, fMin2), ("max", 1, fBest max), ("max", 2, fMax2), ("list", 1, fList), ("tuple", 1, fTuple),
  ("str", 1, fStr), ("all", 1, fAll), ("any", 1, fAny), ("sum", 1, fSum), ("sorted", 1, fSorted), ("repr", 1, fRepr)]
def bltF (x : Str) (n : Nat) : Option FA := (bltTab.find? fun t => decide (t.1 = x) && decide (t.2.1 = n)).map (·.2.2)
def tyTab : List (Str × String) := [("int", "int"), ("bool", "bool"), ("str", "str"), ("list", "list"), ("tuple", "tuple")]
def tyOf (x : Str) : Option String := (tyTab.find? fun t => decide (t.1 = x)).map (·.2)
def tyNamesC (c : Cc) : List Expr → Option (List String)
  | [] => some []
  | .Name x _ :: es => if c.blt x then (match tyOf x, tyNamesC c es with
      | some T, some Ts => some (T :: Ts)
      | _, _ => none) else none
  | _ => none
def Cc.exn (c : Cc) (x : Str) : Bool := (c.blt x && (exTy x).isSome) || (c.glo x && (findX x c.xs).isSome)
def exNamesC (c : Cc) : List Expr → Option (List Str)
  | [] => some []
  | .Name x _ :: es => if c.exn x then (exNamesC c es).map (x :: ·) else none
  | _ => none
def ownNamesC (c : Cc) : List Expr → Option (List Str)
  | [] => some []
  | .Name x _ :: es => if c.glo x && (findX x c.xs).isSome then (ownNamesC c es).map (x :: ·) else none
  | _ => none
def clauseNs (c : Cc) : Expr → Option (List Str)
  | .Name x _ => if c.glo x && (findX x c.xs).isSome then some [x] else none
  | .Tuple es _ _ => if es.length = 3 ∨ es.length = 4 then ownNamesC c es else none
  | _ => none
def cIsi (c : Cc) : List Expr → ME
  | [e, .Name x _] => if isStar e then mNo else (match (if c.blt x then tyOf x else none) with
      | some T => mIsi [T] (l.E c e)
      | none => if c.exn x then mIsX (isB c.xs x) (l.E c e) else mNo)
  | [e, .Tuple es _ _] => if isStar e then mNo else if es.length ≤ 8 then (match tyNamesC c es with
      | some Ts => mIsi Ts (l.E c e)
      | none => match exNamesC c es with
        | some Ts => mIsX (isBs c.xs Ts) (l.E c e)
        | none => mNo) else mNo
  | _ => mNo
def kwNames : List Keyword → Option (List Str)
  | [] => some []
  | ⟨some x, _, _⟩ :: ks => (kwNames ks).map (x :: ·)
  | _ => none
def cK (c : Cc) : List Keyword → MA
  | [] => mNil
  | ⟨_, e, _⟩ :: ks => mCons (l.E c e) (cK c ks)
def cDef (c : Cc) (d : DI) (args : List Expr) (kws : List Keyword) : ME := match kws with
  | [] => if noStars args then mCall d.D (mFz (dA d args.length (cA l c args))) else mNo
  | kws => match args, kwNames kws with
    | [], some ks => match d.kw ks with
      | some pm => mCall d.D (mFz (mPermA pm ks.length (cK l c kws)))
      | none => mNo
    | _, _ => mNo
def cDefX (c : Cc) (d : DI) (args : List Expr) (kws : List Keyword) : ME := match kws with
  | [] => if noStars args then mCallX d.D (mFz (dA d args.length (cA l c args))) else mNo
  | kws => match args, kwNames kws with
    | [], some ks => match d.kw ks with
      | some pm => mCallX d.D (mFz (mPermA pm ks.length (cK l c kws)))
      | none => mNo
    | _, _ => mNo
def cSpec (c : Cc) (x : Str) : List Expr → Option ME
  | [.Call (.Name y _) es [] _] =>
    if x = "sorted" ∧ y = "set" ∧ c.blt y = true then (match es with
      | [e] => if isStar e then none else some (mSortSet (l.E c e))
      | _ => none)
    else if x = "tuple" ∧ y = "range" ∧ c.blt y = true then (match es with
      | [a, b] => if isStar a || isStar b then none else some (mTupRan (cA l c [a, b]))
      | _ => none)
    else if x = "list" ∧ y = "range" ∧ c.blt y = true then (match es with
      | [a] => if isStar a then none else some (mLstRan (l.E c a))
      | _ => none)
    else if x = "len" ∧ y = "set" ∧ c.blt y = true then (match es with
      | [a] => if isStar a then none else some (mLenSet (l.E c a))
      | _ => none)
    else none
  | _ => none
def cMinD (c : Cc) (x : Str) : List Expr → List Keyword → ME
  | [e], [⟨some k, .Constant .none _ _, _⟩] => if x = "min" ∧ k = "default" then (if isStar e then mNo else mMinD (l.E c e)) else mNo
  | _, _ => mNo
def cFun (c : Cc) (x : Str) (args : List Expr) (kws : List Keyword) : ME :=
  if c.glo x then (if c.bl x then (match kws with
      | [] => if x = "isinstance" then cIsi l c args else match cSpec l c x args with
        | some m => m
        | none => if noStars args && !args.isEmpty then (match bltF x args.length with
        | some f => mB1 f (cA l c args)
        | none => mNo) else mNo
      | ks => cMinD l c x args ks)
    else match c.df x with
      | some d => cDef l c d args kws
      | none => mNo) else mNo
def cMet (c : Cc) (o : Expr) (m : Str) (args : List Expr) : ME :=
  if isCall0 o || !noStars args || decide (20 < args.length) then mNo
  else if m = "append" then (match args with
    | [_] => mMtZ "list" fAppend (l.E c o) (cA l c args)
    | _ => mNo)
  else if m = "extend" then (match args with
    | [_] => mMt "list" fExtend (l.E c o) (cA l c args)
    | _ => mNo)
  else if m = "pop" then (match args with
    | [_] => mMt "list" fPopAt (l.E c o) (cA l c args)
    | _ => mNo)
  else if m = "insert" then (match args with
    | [_, _] => mMtZ "list" fInsert (l.E c o) (cA l c args)
    | _ => mNo)
  else if m = "index" then (match args with
    | [_] => fun fm => match mMt "tuple" (fIdx true) (l.E c o) (cA l c args) fm with
      | some r => some r
      | none => match mMt "list" (fIdx false) (l.E c o) (cA l c args) fm with
        | some r => some r
        | none => mMt "list" fFindL (l.E c o) (cA l c args) fm
    | _ => mNo)
  else if m = "count" then (match args with
    | [_] => fun fm => match mMt "tuple" (fCnt true) (l.E c o) (cA l c args) fm with
      | some r => some r
      | none => mMt "list" (fCnt false) (l.E c o) (cA l c args) fm
    | _ => mNo)
  else mNo
def isBack : Option Expr → Option Expr → Expr → Bool
  | none, none, .UnaryOp .USub (.Constant (.int 1) _ _) _ => true
  | _, _, _ => false
def cBool (c : Cc) (op : BoolOp) : List Expr → ME
  | [] => mNo
  | [e] => l.E c e
  | e :: es => match op with
    | .And => mAndV (l.E c e) (cBool c op es)
    | .Or => mOrV (l.E c e) (cBool c op es)
def cBoolT (c : Cc) (op : BoolOp) : List Expr → MT
  | [] => mNoT
  | [e] => l.T c e
  | e :: es => match op with
    | .And => mAndT (l.T c e) (cBoolT c op es)
    | .Or => mOrT (l.T c e) (cBoolT c op es)
def cCmp (c : Cc) (a : Expr) : List CmpOp → List Expr → ME
  | [op], [b] => if isSetD b then mNo else (match cmpF op with
    | some f => m2 f (l.E c a) (l.E c b)
    | none => mNo)
  | [op, op'], [b, d] => if isSetD b || isSetD d then mNo else (match cmpF op, cmpF op' with
    | some f, some f' => mChain f f' (l.E c a) (l.E c b) (l.E c d)
    | _, _ => mNo)
  | _, _ => mNo
def isNm : Expr → Bool
  | .Name _ _ => true
  | _ => false
def cE (c : Cc) : Expr → ME
  | .Name x _ => match c.slot x with
    | some i => mVar i
    | none => match c.con x with
      | some i => mLit (.int i)
      | none => mNo
  | .Constant k _ _ => match k with
    | .int i => mLit (.int i)
    | .bool b => mLit (.bool b)
    | .str s => mLit (.str s)
    | .none => mLit .none
    | _ => mNo
  | .BinOp a op b _ => match opF op with
    | some f => m2 f (l.E c a) (l.E c b)
    | none => mNo
  | .UnaryOp op a _ => match op with
    | .Not => mNotV (l.E c a)
    | .USub => m1 fNeg (l.E c a)
    | _ => mNo
  | .BoolOp op es _ => cBool l c op es
  | .Compare a ops bs _ => cCmp l c a ops bs
  | .IfExp t a b _ => mIfE (l.T c t) (l.E c a) (l.E c b)
  | .List es _ => mLst (cA l c es)
  | .Tuple es _ _ => mTup (cA l c es)
  | .Subscript e s _ => match s with
    | .Slice lo hi none _ => mSl (l.E c e) (cO l c lo) (cO l c hi)
    | .Slice lo hi (some st) _ => if isBack lo hi st then m1 fBack (l.E c e) else mNo
    | s => m2 fIx (l.E c e) (l.E c s)
  | .ListComp elt gs scope _ => cL l c elt scope gs
  | .Call f args kws p => match f with
    | .Name x _ => cFun l c x args kws
    | .Attribute o m ap => if kws.isEmpty && (ap.endLine == p.line) then cMet l c o m args else mNo
    | _ => mNo
  | .Attribute e g _ => if isNm e then mFld (fldOf c.xs) g (l.E c e) else mNo
  | _ => mNo
def tmpN (c : Cc) : Expr → Bool
  | .Name x _ => c.mu x && !(x == ("_law_box_here" : Str))
  | _ => false
def tmpB : Expr → Bool
  | .Name x _ => x == ("_law_box_here" : Str)
  | _ => false
def tmpA (c : Cc) : Expr → Bool
  | .Name x p => tmpN c (.Name x p)
  | .List es _ => es.any (tmpN c)
  | .Tuple es _ _ => es.any (tmpN c)
  | .Call (.Name x _) args kws _ => !c.bl x && (args.any (tmpN c) || kws.any fun k => match k with | ⟨_, e, _⟩ => tmpN c e)
  | _ => false
def tmpC (c : Cc) : Expr → Bool
  | .Call (.Name x _) args kws _ => !c.bl x && !(args.any tmpB) && (args.any (tmpA c) || kws.any fun k => match k with | ⟨_, e, _⟩ => tmpA c e)
  | _ => false
def tmpT (c : Cc) : Expr → Bool
  | .Compare a _ bs _ => tmpC c a || bs.any (tmpC c)
  | e => tmpC c e
def mTmpO (b : Bool) (m : MT) : MT := match b with
  | true => mTmp m
  | false => m
def cT (c : Cc) : Expr → MT
  | .UnaryOp .Not a _ => mNotT (l.T c a)
  | .BoolOp op es _ => cBoolT l c op es
  | .Compare a ops bs p => mTmpO (tmpT c (.Compare a ops bs p)) (mB (cCmp l c a ops bs))
  | .IfExp _ _ _ _ => mNoT
  | .Name x p => mTmpO (tmpT c (.Name x p)) (mTru (l.E c (.Name x p)))
  | e => mTmpO (tmpT c e) (mB (l.E c e))
def nmLoc (c : Cc) (line : Nat) : Expr → Option Str
  | .Name id pos => if c.sc.names.lookup id == some .local && pos.line == line then some id else none
  | _ => none
def swapNs (c : Cc) (ts vs : List Expr) : Option (Option (List Str)) :=
  if (!(ts.length == 2 || ts.length == 3) || vs.length != ts.length) = true then some none
  else if vs.any isStar = true then some none
  else if ((ts.filterMap (nmLoc c ((ts.head?.map (·.pos.line)).getD 0))).length != ts.length || (ts.filterMap (nmLoc c ((ts.head?.map (·.pos.line)).getD 0))).eraseDups.length != (ts.filterMap (nmLoc c ((ts.head?.map (·.pos.line)).getD 0))).length) = true then some none
  else if vs.all (foldedForSure 8) = true then some none
  else if vs.all (constantsAlone 8) = true then none
  else some (some (ts.filterMap (nmLoc c ((ts.head?.map (·.pos.line)).getD 0))))
def isSD : Expr → Bool
  | .SetComp _ _ _ _ => true
  | .DictComp _ _ _ _ _ => true
  | _ => false
def defOf (c : Cc) (x : Str) : Option DI := if c.glo x && !c.bl x then c.df x else none
def cX1 (c : Cc) : Expr → ME
  | .Call (.Name x p) args kws pos => match defOf c x with
    | some d => if d.rs then cDefX l c d args kws else l.E c (.Call (.Name x p) args kws pos)
    | none => l.E c (.Call (.Name x p) args kws pos)
  | e => l.E c e
def isXc (c : Cc) : Expr → Bool
  | .Call (.Name x _) _ _ _ => match defOf c x with
    | some d => d.rs
    | none => false
  | _ => false
def cAX (c : Cc) : List Expr → MAX
  | [] => mNilX
  | e :: es => if isStar e then (fun _ => none) else mConsX (cX1 l c e) (cAX c es)
def cX (c : Cc) : Expr → ME
  | .IfExp t a b _ => mIfE (l.T c t) (cX1 l c a) (cX1 l c b)
  | .List es p => if es.any (isXc c) then mLstX (cAX l c es) else cX1 l c (.List es p)
  | e => cX1 l c e
def cV (c : Cc) : Expr → ME
  | .ListComp elt gs scope _ => cL l c elt scope gs
  | e => if isSD e then mNo else cX l c e
def cPar (c : Cc) (ts vs : List Expr) : MS := match ts, vs with
  | [.Name x p, .Name y q], [a, b] => if swapNs c [.Name x p, .Name y q] [a, b] = some (some [x, y]) then (match c.loc x, c.loc y with
      | some i, some j => if i ≠ j then mPar [i, j] (cA l c [a, b]) else mNoS
      | _, _ => mNoS) else mNoS
  | [.Name x p, .Name y q, .Name z r], [a, b, d] => if swapNs c [.Name x p, .Name y q, .Name z r] [a, b, d] = some (some [x, y, z]) then (match c.loc x, c.loc y, c.loc z with
      | some i, some j, some k => if i ≠ j ∧ i ≠ k ∧ j ≠ k then mPar [i, j, k] (cA l c [a, b, d]) else mNoS
      | _, _, _ => mNoS) else mNoS
  | _, _ => mNoS
def isTupE : Expr → Option (List Expr)
  | .Tuple vs _ _ => some vs
  | _ => none
def mayL : Expr → Bool
  | .ListComp _ _ _ _ => true
  | .List _ _ => true
  | .Call _ _ _ _ => true
  | .BinOp _ _ _ _ => true
  | .Subscript _ s _ => isSlice s
  | .IfExp _ _ _ _ => true
  | _ => false
def muT (c : Cc) : List Expr → List Expr → Bool
  | .Name x _ :: ts, v :: vs => (c.mu x && mayL v) || muT c ts vs
  | _ :: ts, _ :: vs => muT c ts vs
  | _, _ => false
def cParG (c : Cc) (ts vs : List Expr) : MS := match ts, vs with
  | [.Name x _, .Name y _], [a, b] => (match c.sto x, c.sto y with
      | some i, some j => mPar [i, j] (cA l c [a, b])
      | _, _ => mNoS)
  | _, _ => mNoS
def cTgt (c : Cc) (ts : List Expr) (e : Expr) : MS := match cGs l c ts with
  | some r => mAsg (gTupD ts.length r) (cX l c e)
  | none => mNoS
def cAsg (c : Cc) (e : Expr) : Expr → MS
  | .Name x _ => match c.sto x with
    | some i => mSet i (cV l c e)
    | none => mNoS
  | .Tuple ts _ _ => match isTupE e with
    | some vs => match swapNs c ts vs with
      | some (some _) => cPar l c ts vs
      | some none => if muT c ts vs then cParG l c ts vs else cTgt l c ts e
      | none => mNoS
    | none => if isCompr e then mNoS else cTgt l c ts e
  | .Subscript o i p => if isCompr e then mNoS else (match cG1 l c (.Subscript o i p) with
    | some g => mAsg g (l.E c e)
    | none => mNoS)
  | _ => mNoS
def gh1 (c : Cc) : Expr → List Nat
  | .Name x _ => if c.mu x then [] else (match c.N.findIdx? (· == x) with
    | some i => [i]
    | none => [])
  | _ => []
def ghs (c : Cc) : List Expr → List Expr → List Nat
  | t :: ts, v :: vs => (if mayL v then gh1 c t else []) ++ ghs c ts vs
  | _, _ => []
def ghIx (c : Cc) (e : Expr) : Expr → List Nat
  | .Tuple ts _ _ => (match isTupE e with
    | some vs => ghs c ts vs
    | none => [])
  | t => if mayL e then gh1 c t else []
def mGhO (is : List Nat) (m : MS) : MS := match is with
  | [] => m
  | i :: is => mGh (i :: is) m
def cRaise (c : Cc) : Expr → MS
  | .Call (.Name x _) args [] _ => if c.glo x then (match findX x c.xs with
    | some r => (match r.fld with
      | some f => (match args with
        | [e] => if isStar e then mNoS else mRaise x f (cA l c [e])
        | _ => mNoS)
      | none => (match args with
        | [] => mRaise0 x
        | _ => mNoS))
    | none => mNoS) else mNoS
  | _ => mNoS
def litOf : Const → Option PyData
  | .int i => some (.int i)
  | .bool b => some (.bool b)
  | .str s => some (.str s)
  | .none => some .none
  | _ => none
def cTry (c : Cc) (body : List Stmt) : List ExceptHandler → MS
  | [.ExceptHandler (some t) (some n) [.Assign [.Name y _] (.Name z _) _] _] => if z = n ∧ plainN n = true then (match c.loc n, c.sto y, clauseNs c t with
    | some j, some i, some nms => if i ≠ j then mTryC nms i j (l.B c body) else mNoS
    | _, _, _ => mNoS) else mNoS
  | [.ExceptHandler (some t) none [.Return (some (.Constant k _ _)) _] _] => (match clauseNs c t, litOf k with
    | some nms, some d => mTryR nms d (l.B c body)
    | _, _ => mNoS)
  | _ => mNoS
def cAug (c : Cc) (i : Nat) (e : Expr) : Operator → MS
  | .Add => mAugA i (l.E c e)
  | .Sub => mAug i fSub (l.E c e)
  | .Mult => mAug i fMul (l.E c e)
  | _ => mNoS
def cS (c : Cc) : Stmt → MS
  | .AugAssign t op e _ => match t with
    | .Name x _ => (match c.sto x with
      | some i => cAug l c i e op
      | none => mNoS)
    | _ => mNoS
  | .Assign ts e _ => match ts with
    | [tg] => mGhO (ghIx c e tg) (cAsg l c e tg)
    | _ => mNoS
  | .Expr e _ => if isCompr e then mNoS else mExpr (cX l c e)
  | .Return e _ => match e with
    | some e => mRet (cX l c e)
    | none => mRetN
  | .Pass _ => mNext
  | .Break _ => mBreak
  | .Continue _ => mCont
  | .If t a b _ => mIf (l.T c t) (l.B c a) (l.B c b)
  | .For tg iter body els _ => match els with
    | [] => if isSetD iter then mNoS else (match cG l c tg with
      | some g => (match cIw l c iter with
        | some mi => if isTup tg then mFor mi g (l.B c body) else mNoS
        | none => mFor (cI l c iter) g (l.B c body))
      | none => mNoS)
    | _ => mNoS
  | .While t body els _ => match els with
    | [] => mWhile 100000 (l.T c t) (l.B c body)
    | _ => mNoS
  | .Raise e cause _ => match e, cause with
    | some e, none => cRaise l c e
    | _, _ => mNoS
  | .Try body hs els fin _ => match els, fin with
    | [], [] => cTry l c body hs
    | _, _ => mNoS
  | _ => mNoS
def cB (c : Cc) : List Stmt → MS
  | [] => mNext
  | [s] => cS l c s
  | s :: ss => mSeq (cS l c s) (cB c ss)
end
def lvS (l : Lv) : Lv := ⟨cE l, cT l, cB l⟩
def lv : Nat → Lv
  | 0 => lv0
  | n + 1 => lvS (lv n)
end Rf

namespace Rf
open PySem PySem.Spec PyProof.Rows L2

structure DR where
  name : Str
  ps : List Str
  /-- its other names, those of its comprehensions among them -/
  more : List Str
  ro : List Nat
  /-- by which keywords it is called -/
  kws : List (List Str)
  /-- names whose lists it changes or hands back -/
  mu : List Str
  /-- it may raise -/
  rs : Bool
  st : Stmt
  /-- its last parameter's default is () -/
  df : Bool
  /-- whole numbers of the module that it names -/
  gk : List (Str × Int)
def DR.N (d : DR) : List Str := d.ps ++ d.more
def kwPm (ps ks : List Str) : List Nat := ps.map fun p => ks.findIdx (· == p)
def DR.kw (d : DR) (ks : List Str) : Option (List Nat) := if ks ∈ d.kws then some (kwPm d.ps ks) else none
def findD (x : Str) : List DR → Option DR
  | [] => none
  | d :: ds => if d.name = x then some d else findD x ds
def cOf (d : DR) (df : Str → Option DI) (bl : Str → Bool) (xs : List XR) : Cc := ⟨d.N, defScope d.st, d.ro, fun _ => true, df, bl, fun x => d.mu.contains x, xs, d.gk⟩
def dm (lvl : Nat) (d : DR) (df : Str → Option DI) (bl : Str → Bool) (xs : List XR) : Dm := mkD d.ps.length d.N.length d.ro ((lv lvl).B (cOf d df bl xs) (defBody d.st))
def envD (lvl : Nat) (ds : List DR) (bl : Str → Bool) (xs : List XR) : Nat → Str → Option DI
  | 0, _ => none
  | n + 1, x => match findD x ds with
    | some d => some ⟨d.ps, dm lvl d (envD lvl ds bl xs n) bl xs, d.kw, d.rs, d.df⟩
    | none => none
end Rf

namespace Rf
open PySem PySem.Spec PyProof.Rows L2

structure DefOk (X : Cx) (x : Str) (d : DI) : Prop where
  ex : ∃ (k : Nat) (f : Addr) (fd : FuncData), FnG X.prog X.w X.K X.mg X.base k f fd d.ps (spM X.K d.D) ∧ Room k X.A ∧ X.mg x = some (.ref f) ∧ PySem.W.keepIn X.K (.ref f) = true ∧ Binds X.K fd d.ps [] ∧ (∀ ks pm, d.kw ks = some pm → KwB X.K fd d.ps ks pm) ∧ (d.df = true → ∃ e0 : Addr, EmpT X.K e0 ∧ Binds X.K fd d.ps [.ref e0])
structure CtxOk (X : Cx) (c : Cc) : Prop where
  N : X.N = c.N
  sc : X.env.scope = c.sc
  kind : c.sc.kind = .function
  nd : c.N.Nodup
  calm : X.calm = true
  fn : ∀ x, c.fn x = true → X.fn x = true
  gd : X.A.guards = some []
  un : X.A.units + 100 < cLine
  bl : ∀ x, c.bl x = true → X.mg x = none
  df : ∀ x d, c.df x = some d → DefOk X x d
  xs : ∀ r ∈ c.xs, ∃ C, XOk X c.xs r C
  gk : ∀ x i, findK x c.gk = some i → ∃ u, X.mg x = some u ∧ RelV (.int i) u
structure StOk (X : Cx) : Prop where
  ps : PassesOwn (model X.prog X.w) X.A X.env X.xe
  stk : X.stack = X.env :: X.outer
  frm : X.env.frame = some X.env.locals
  ex : X.ex = []
structure LvOk (l : Lv) : Prop where
  E : ∀ X c, CtxOk X c → ∀ e, SE X e (l.E c e)
  T : ∀ X c, CtxOk X c → ∀ e, ST X e (l.T c e)
  B : ∀ X c, CtxOk X c → StOk X → ∀ ss, SSs X c.ro ss (l.B c ss)
section
variable {X : Cx} {c : Cc} {e : Expr} {es : List Expr} {ss : List Stmt} {st : Stmt} {ro : List Nat}
theorem se_no : SE X e mNo := ⟨fun _ _ _ _ _ _ ⟨_, _, _, _, _, em, _⟩ => nomatch em⟩
theorem se_no' {m : ME} (h : ∀ fm, m fm = none) : SE X e m := ⟨fun _ _ _ _ _ _ ⟨_, fm, _, _, _, em, _⟩ => by rw [h fm] at em; cases em⟩
theorem st_no : ST X e mNoT := ⟨fun _ _ _ _ _ _ ⟨_, _, _, _, _, em, _⟩ => nomatch em⟩
theorem sa_no : SA X es mNoA := ⟨fun _ _ _ _ _ _ _ ⟨_, _, _, _, _, em, _⟩ => nomatch em⟩
theorem ss_no : SS X ro st mNoS := fun _ _ => ⟨fun _ _ _ _ _ _ ⟨_, _, _, _, _, em, _⟩ => nomatch em⟩
theorem sss_no : SSs X ro ss mNoS := fun _ _ => ⟨fun _ _ _ _ _ _ ⟨_, _, _, _, _, em, _⟩ => nomatch em⟩
theorem si_no {Rl : RLT} {tg iter : Expr} : SI X Rl tg iter (fun _ => none) := ⟨fun _ _ _ _ _ _ ⟨_, _, _, _, _, em, _⟩ => nomatch em⟩
theorem st_no' : ST X e (mB mNo) := ⟨fun _ _ _ _ _ _ ⟨_, _, _, _, _, em, _⟩ => nomatch em⟩
theorem lv0_ok : LvOk lv0 := ⟨fun _ _ _ _ => se_no, fun _ _ _ _ => st_no, fun _ _ _ _ _ => sss_no⟩

theorem find_at {N : List Str} {x : Str} {i : Nat} (h : N.findIdx? (· == x) = some i) : N[i]? = some x := by
  obtain ⟨hi, h1, _⟩ := List.findIdx?_eq_some_iff_getElem.mp h
  rw [List.getElem?_eq_getElem hi]
  have : N[i] = x := by simpa using h1
  rw [this]
theorem vis_of {sc : Scope} {x : Str} (h : visK (sc.names.lookup x) = true) : Vis sc x := by
  unfold visK at h
  split at h
  · rename_i e; exact .inl e
  · rename_i e; exact .inr (.inl e)
  · rename_i e; exact .inr (.inr e)
  · cases h
theorem plainN_of {x : Str} (h : plainN x = true) : (x == ("__debug__" : Str)) = false ∧ (x == ("__classdict__" : Str)) = false ∧ x ≠ "__name__" := by
  unfold plainN at h
  simp only [Bool.and_eq_true, Bool.not_eq_true'] at h
  exact ⟨h.1.1, h.1.2, fun e => by have := h.2; rw [e] at this; simp at this⟩
theorem slot_ok (C : CtxOk X c) {x : Str} {i : Nat} (h : c.slot x = some i) : X.N[i]? = some x ∧ Vis X.env.scope x ∧ (x == ("__debug__" : Str)) = false ∧ (x == ("__classdict__" : Str)) = false := by
  unfold Cc.slot at h
  split at h
  · rename_i hc
    simp only [Bool.and_eq_true] at hc
    obtain ⟨h1, h2, h3⟩ := plainN_of hc.2
    exact ⟨by rw [C.N]; exact find_at h, by rw [C.sc]; exact vis_of hc.1, h1, h2⟩
  · cases h
theorem sto_ok' (C : CtxOk X c) {x : Str} {i : Nat} (h : c.sto x = some i) : X.N[i]? = some x ∧ Loc X.env.scope x ∧ i ∉ c.ro ∧ (X.fn x = true ∨ X.env.scope.names.lookup x = some .local) := by
  unfold Cc.sto at h
  rw [C.N, C.sc]
  split at h
  · rename_i e
    split at h
    · rename_i j hj
      split at h
      · cases h
      · rename_i hn
        cases h
        exact ⟨find_at hj, .inl e, hn, .inr e⟩
    · cases h
  · rename_i e
    split at h
    · rename_i hf
      split at h
      · rename_i j hj
        split at h
        · cases h
        · rename_i hn
          cases h
          exact ⟨find_at hj, .inr e, hn, .inl (C.fn x hf)⟩
      · cases h
    · cases h
  · cases h
theorem loc_ok (C : CtxOk X c) {x : Str} {i : Nat} (h : c.loc x = some i) : X.N[i]? = some x ∧ X.env.scope.names.lookup x = some .local ∧ i ∉ c.ro := by
  unfold Cc.loc at h
  rw [C.N, C.sc]
  split at h
  · rename_i e
    split at h
    · rename_i j hj
      split at h
      · cases h
      · rename_i hn
        cases h
        exact ⟨find_at hj, e, hn⟩
    · cases h
  · cases h
theorem glo_ok (C : CtxOk X c) {x : Str} (h : c.glo x = true) : Gl X x ∧ (x == ("__debug__" : Str)) = false ∧ x ≠ "__name__" := by
  unfold Cc.glo at h
  simp only [Bool.and_eq_true] at h
  obtain ⟨h1, h2⟩ := h
  obtain ⟨p1, _, p3⟩ := plainN_of h2
  refine ⟨?_, p1, p3⟩
  show X.env.scope.names.lookup x = some .globalImplicit
  rw [C.sc]
  split at h1
  · assumption
  · cases h1
theorem blt_ok (C : CtxOk X c) {x : Str} (h : c.blt x = true) : Gl X x ∧ X.mg x = none ∧ (x == ("__debug__" : Str)) = false ∧ x ≠ "__name__" := by
  unfold Cc.blt at h
  simp only [Bool.and_eq_true] at h
  obtain ⟨g1, g2, g3⟩ := glo_ok C h.1
  exact ⟨g1, C.bl x h.2, g2, g3⟩
theorem opF_ok : ∀ {op : Operator} {f : F2}, opF op = some f → ∃ r, OpR X (binaryOp op) r ∧ Prim2 X.K r f
  | .Add, _, rfl => ⟨_, op_addX, p_addX⟩
  | .Sub, _, rfl => ⟨_, op_subX, p_subX⟩
  | .Mult, _, rfl => ⟨_, opr_or op_rep1 (opr_or op_repP op_mulX'), p_mulY⟩
  | .Mod, _, rfl => ⟨_, op_mod, p_mod⟩
  | .FloorDiv, _, rfl => ⟨_, op_fdiv, p_div⟩
  | .Pow, _, rfl => ⟨_, op_pow, p_pow⟩
theorem p_isX {K : PySem.W.Frag} : Prim2 K (fun x y H Q => (y = .non ∧ Q (.bl (decide (x = .non))) H) ∨ rIsB x y H Q) fIsX := by
  intro F H σ fm fm' va vb x y v R Va Vb h Q q
  unfold fIsX at h
  split at h
  · exact .inl (p_isN F H σ fm fm' va vb x y v R Va Vb h Q q)
  · exact .inr (p_isB F H σ fm fm' va vb x y v R Va Vb h Q q)
  · cases h
section
variable {K : PySem.W.Frag} {F H : Hp} {σ : L2.St} {fm : Fm} {v : SV} {x : V} {xc : Xc}
theorem exc_ok (R : Rel K F H σ fm) (V : VRel K F H σ fm v x) (h : excOf v fm = some xc) : ∃ (a C : Addr) (d : Option Addr), x = .ref a ∧ PySem.W.nsIn K mainGlobals xc.nm = some (some (.ref C)) ∧ H a = some (exk a C d) ∧
    ((xc.fs = [] ∧ d = none) ∨ ∃ (f : Str) (pd : PyData) (dx : Addr) (w : L2.V), xc.fs = [(f, pd)] ∧ d = some dx ∧ H dx = some (.xd [(f, w)]) ∧ Dq K F w pd) := by
  unfold excOf at h
  split at h
  · rename_i i
    split at h
    · rename_i nm fs e
      cases h
      obtain ⟨h1, s, h2⟩ := V
      obtain ⟨p, g1, _, C, d, hn, g2, g3⟩ := R.own i _ e
      rw [h1] at g1; cases g1
      exact ⟨p, C, d, rfl, hn, g2, g3.imp id fun ⟨f, pd, dx, w, r1, r2, r3, r4⟩ => ⟨f, pd, dx, w, r1, r2, R.sub _ _ r3, r4⟩⟩
    · cases h
  · cases h
end
theorem p_isY {K : PySem.W.Frag} : Prim2 K (fun x y H Q => (y = .non ∧ Q (.bl (decide (x = .non))) H) ∨ rIsB x y H Q) fIsY := by
  intro F H σ fm fm' va vb x y v R Va Vb h Q q
  unfold fIsY at h
  split at h
  · rename_i xc hx
    split at h
    · rename_i h2
      cases h
      obtain ⟨a, C, d, rfl, _⟩ := exc_ok R Va hx
      exact .inl ⟨peek_none R Vb h2, q _ F H (Aft.refl R) (.bl _) VNew.dat⟩
    · cases h
  · exact p_isX F H σ fm fm' va vb x y v R Va Vb h Q q
theorem p_notY {K : PySem.W.Frag} : Prim2 K (fun x y H Q => y = .non ∧ Q (.bl (!decide (x = .non))) H) fNotY := by
  intro F H σ fm fm' va vb x y v R Va Vb h Q q
  unfold fNotY at h
  split at h
  · rename_i xc hx
    split at h
    · rename_i h2
      cases h
      obtain ⟨a, C, d, rfl, _⟩ := exc_ok R Va hx
      exact ⟨peek_none R Vb h2, q _ F H (Aft.refl R) (.bl _) VNew.dat⟩
    · cases h
  · exact p_notN F H σ fm fm' va vb x y v R Va Vb h Q q
theorem cmpF_ok (C : CtxOk X c) : ∀ {op : CmpOp} {f : F2}, cmpF op = some f → ∃ r, OpR X (compareOp op) r ∧ Prim2 X.K r f
  | .Eq, _, rfl => ⟨_, opr_or op_eq (op_eqD (by have := C.un; omega)), p_eqX⟩
  | .NotEq, _, rfl => ⟨_, opr_or op_ne (op_neD (by have := C.un; omega)), p_neX⟩
  | .Lt, _, rfl => ⟨_, op_lt, p_lt⟩
  | .LtE, _, rfl => ⟨_, op_le, p_le⟩
  | .Gt, _, rfl => ⟨_, op_gt, p_gt⟩
  | .GtE, _, rfl => ⟨_, op_ge, p_ge⟩
  | .Is, _, rfl => ⟨_, opr_or op_isN op_isBl, p_isY⟩
  | .IsNot, _, rfl => ⟨_, op_notN, p_notY⟩
  | .In, _, rfl => ⟨_, op_inX (by have := C.un; omega), p_inX⟩
  | .NotIn, _, rfl => ⟨_, op_notInX (by have := C.un; omega), p_notInX⟩
end
end Rf

namespace Rf
open PySem PySem.Spec PyProof.Rows L2
section
variable {X : Cx} {pins : List (Addr × Obj)} {σ : L2.St} {H : Hp} {s : Shared} {a C : Addr} {f : Str} {y : V} {u : Value} {Q : Unit → Shared → Prop} {E : Value → Shared → Prop} {A : Around} {B newId initId : String} {bmB : List Value}
theorem setX (T : XC X.K C B newId initId bmB) (I : Inv X pins σ H s) (e : H a = some (exo a C none)) (hno : PySem.W.findIn X.K (.ref C) f = some none) (ry : RelV y u)
    (h : ∀ dx s', H dx = none → dx ≠ a → Inv X pins σ (upd (upd H dx (exd dx [(f, y)])) a (exo a C (some dx))) s' → Q () s') : wpAny (model X.prog X.w) A (setAttr (.ref a) f u) Q E s := by
  obtain ⟨t1, ho⟩ := exo_at I.hok e
  obtain ⟨hp, g, d, t, os⟩ := s
  obtain ⟨cd, hcd, hhd⟩ : ∃ cd, PySem.W.clsIn X.K C = some cd ∧ cd.hasDict = true := by
    have := T.hd
    unfold PySem.W.hasDictIn at this
    cases hc : PySem.W.clsIn X.K C with
    | none => rw [hc] at this; cases this
    | some cd => rw [hc] at this; exact ⟨cd, rfl, this⟩
  have hat : PySem.W.InstAt hp a { cls := .ref C, dict := none, data := .fields #[.ref t1, .none, .none, .none, .bool false, .none] } C none := ⟨ho, rfl, rfl, trivial⟩
  refine PySem.W.set_plain I.kIn hat T.sa ?_
  refine PySem.W.osa_openX (r := none) T.fs I.kIn hat T.ov (by unfold PySem.W.takerIn; rw [hno]; rfl) fun bb => ?_
  have hcls : PySem.W.Looks (model X.prog X.w) hp (classData C) cd := PySem.W.looks_clsIn I.kIn hcd
  have hxs : a ≠ hp.objs.size := Nat.ne_of_lt (Heap.lt_size ho)
  obtain ⟨nm, bs, mro, ns, qn, hdc, sn, sb, ab, col, del⟩ := cd
  dsimp only at hhd
  subst hhd
  dsimp only
  unfold Builtin.ObjectAttr.storeInOwnDict Builtin.ObjectAttr.ownDictForStores
  repeat (first | with_reducible refine PySem.HandSPX.store_in_new ?_ ?_ | with_reducible refine wpAny_loadPart_at ho ?_ | with_reducible refine hcls.at ?_ | wp_step)
  · refine ⟨_, #[], _, (Heap.get?_update_ne _ _ _ _ (Ne.symm hxs)).trans (Heap.get?_push_at rfl rfl), rfl, fun z hz => absurd hz (by simp), fun _ => rfl⟩
  · intro h' tk' hn sb'
    dsimp only
    have ho1 : (hp.push { cls := .type "dict", data := .dict #[] }).get? a = some { cls := .ref C, data := .fields #[.ref t1, .none, .none, .none, .bool false, .none] } := Heap.get?_push_of_some _ ho
    have kk : ∀ (b : Addr) (o : Obj), b ≠ a → hp.get? b = some o → h'.get? b = some o := fun b o hb q =>
      (sb'.2 b (Nat.ne_of_lt (Heap.lt_size q))).trans ((Heap.get?_update_ne _ _ _ _ hb).trans (Heap.get?_push_of_some _ q))
    have hx : h'.get? a = some { cls := .ref C, dict := some hp.objs.size, data := .fields #[.ref t1, .none, .none, .none, .bool false, .none] } := (sb'.2 a hxs).trans (Heap.get?_update_self _ ho1 rfl)
    have nf : H hp.objs.size = none := I.hok.fresh (Nat.le_refl _)
    have ned : ∀ {b : Addr} {o : Obj}, hp.get? b = some o → b ≠ hp.objs.size := fun q => Nat.ne_of_lt (Heap.lt_size q)
    have nea : ∀ {b : Addr}, H b = none → b ≠ a := fun {b} n z => by rw [z, e] at n; cases n
    have un : Un X.fs [] H (upd (upd H hp.objs.size (exd hp.objs.size [(f, y)])) a (exo a C (some hp.objs.size))) hp h' :=
      ⟨fun b o q n _ _ => kk b o (nea n) q, fun b o q n _ _ => ⟨o.slots, kk b o (nea n) q⟩, fun b o q n _ => by rw [upd_ne (nea n), upd_ne (ned q)]; exact n,
       fun b o q _ => by
        by_cases hb : b = a
        · subst hb; exact ⟨_, hx⟩
        · exact ⟨o, kk b o hb q⟩,
       fun b xs q => by rw [upd_ne (at_ne e q exo_tup), upd_ne (L2.ne_of_none q nf)]; exact q, fun b o v q => by rw [upd_ne (at_ne e q exo_frz), upd_ne (L2.ne_of_none q nf)]; exact q,
       fun b ps q => ⟨#[], by rw [upd_ne (at_ne e q exo_tbl), upd_ne (L2.ne_of_none q nf), q]; simp⟩⟩
    refine h hp.objs.size _ nf (Ne.symm hxs) (I.un (t' := tk') un fun b o q => ?_)
    by_cases hb : b = a
    · subst hb
      rw [upd_same] at q; cases q
      exact exo_ok hx
    · rw [upd_ne hb] at q
      by_cases hd : b = hp.objs.size
      · subst hd
        rw [upd_same] at q; cases q
        exact exd_ok hn (relO_put (fs := []) ry fun g => trivial)
      · rw [upd_ne hd] at q
        refine (I.hok b o q).stay (fun c v hc z => kk c v ?_ z) (fun c hc => ?_) fun c xs hc => ?_
        · rcases hc with hc | hc
          · subst hc; exact hb
          · exact at_ne e hc exo_own
        · rw [upd_ne (at_ne e hc exo_own), upd_ne (L2.ne_of_none hc nf)]; exact hc
        · rw [upd_ne (at_ne e hc exo_tup), upd_ne (L2.ne_of_none hc nf)]; exact hc
def tStX (K : PySem.W.Frag) (f : Str) (to te : TE) : TS := fun D σ H => te σ H fun y H1 => to σ H1 fun x H2 => ∃ (a C : Addr) (B newId initId : String) (bmB : List Value), x = .ref a ∧ XC K C B newId initId bmB ∧ PySem.W.findIn K (.ref C) f = some none ∧ H2 a = some (exo a C none) ∧
  ∀ dx, H2 dx = none → dx ≠ a → D.nx σ (upd (upd H2 dx (exd dx [(f, y)])) a (exo a C (some dx)))
theorem ps_stX {o e : Expr} {to te : TE} {p' pos : Pos} (ho : PE X o to) (he : PE X e te) (hs : swapsWith e (some (.Attribute o f p')) pos.line X.env = pure false) : PS X (.Assign [.Attribute o f p'] e pos) (tStX X.K f to te) := by
  refine ⟨fun pins s σ H D I h => plainObj_wpAny_Assign_Attribute (thn (he.run pins s σ H _ I h) fun v s1 ⟨y, H1, I1, r1, q1⟩ => thn (ho.run pins s1 σ H1 _ I1 q1) fun u s2 ⟨x, H2, I2, r2, a, C, B, n1, n2, bmB, ex, T, hno, ea, q⟩ => ?_) hs⟩
  subst ex
  cases (show u = Value.ref a from r2)
  exact setX T I2 ea hno r1 fun dx s' n ne J => ⟨σ, _, J, q dx n ne⟩
end
def isInit (f : Str) (st : Stmt) : Bool := match defBody st with
  | [.Assign [.Attribute (.Name y _) g _] (.Name z _) _] => decide (y = "self") && (decide (g = f) && decide (z = f))
  | _ => false
section
variable {P : Program} {w : World} {K : PySem.W.Frag} {mg : Str → Option Value} {base : Heap}
theorem init_ok {x qual f : Str} {st : Stmt} {fI : Addr} {fd : FuncData} (Fn : Fun K x qual st fI fd) (S : FnScope ["self", f] ["self", f] (defScope st)) (hi : isInit f st = true) (hpl : plainN f = true) : FnOk P w K mg base CX0 1 fI fd ["self", f] (spIn K f) := by
  refine Fn.ok (k := 0) S (fun vs H Q E h => ?_) fun cdv A outer s H vs Q E hr h => ?_
  · obtain ⟨a, C, v, B, n1, n2, bmB, rfl, _⟩ := h; rfl
  · obtain ⟨a, C, v, B, n1, n2, bmB, rfl, T, hno, ea, q⟩ := h
    unfold isInit at hi
    split at hi
    · rename_i y py g pa z pz ps hb
      simp only [Bool.and_eq_true, decide_eq_true_eq] at hi
      obtain ⟨rfl, rfl, rfl⟩ := hi
      obtain ⟨p1, p2, p3⟩ := plainN_of hpl
      have v0 : Vis (cxOf CX0 P w K mg base ["self", z] qual (defScope st) fI cdv A outer s H E).nox.env.scope "self" := by
        rcases S.par "self" (by simp) with h | h
        · exact .inl h
        · exact .inr (.inl h)
      have v1 : Vis (cxOf CX0 P w K mg base ["self", z] qual (defScope st) fI cdv A outer s H E).nox.env.scope z := by
        rcases S.par z (by simp) with h | h
        · exact .inl h
        · exact .inr (.inl h)
      rw [hb]
      refine ⟨_, pss_one (ps_stX (pe_var (i := 0) rfl v0 (by decide) (by decide)) (pe_var (i := 1) rfl v1 p1 p2) rfl), ?_⟩
      refine ⟨v, rfl, .ref a, rfl, a, C, B, n1, n2, bmB, rfl, T, hno, ea, fun dx n ne => q dx n ne⟩
    · cases hi
end
section
variable {X : Cx} {e : Expr} {ta : TA} {x f : Str} {p pos : Pos} {C fI : Addr} {fd : FuncData} {B newId initId : String} {bmB : List Value}
def tMkX (C : Addr) (f : Str) (ta : TA) : L2.St → Hp → XK → Prop := fun σ H Q => ta σ H fun vs H1 => ∃ v, vs = [v] ∧ ∀ d, H1 d = none → Q (.ref C) (some d) (upd H1 d (.xd [(f, v)]))
theorem pmk_x (T : XC X.K C B newId initId bmB) (iC : PySem.W.findIn X.K (.ref C) "__init__" = some (some (.ref fI))) (tI : PySem.W.typeIn X.K (.ref fI) = some (.type "function")) (hno : PySem.W.findIn X.K (.ref C) f = some none)
    (F1 : FnOk X.prog X.w X.K X.mg X.base CX0 1 fI fd ["self", f] (spIn X.K f)) (hr : Room 2 X.A) (hb : Binds X.K fd ["self", f] []) (hg : Gl X x) (hm : X.mg x = some (.ref C)) (ha : PA X [e] ta)
    (hdb : (x == ("__debug__" : Str)) = false) (hs : isStar e = false) : PMk X (.Call (.Name x p) [e] [] pos) (tMkX C f ta) := by
  intro pins s σ H Q I h
  refine wpAny_Call_Name_kw (ld_glob I hg hm ?_ hdb)
  refine PySem.W.callWith_K (h₀ := X.base) I.ok.mod.kin T.kp (thn (ha.run pos pins s σ H _ I h) fun us s1 ⟨vs, H1, I1, r1, v, ev, q1⟩ => ⟨I1.kIn, ?_⟩) (star_cons hs) (back_plain rfl)
  subst ev
  show wpAny _ _ (call (.ref C) us) _ _ _
  obtain ⟨hp, g, dr, tk, os⟩ := s1
  obtain ⟨nm, N, qn, bs, bm, hdct, sn, sub, ab, col, dd, k0, k1, k2, k3, k5, hC, hT⟩ := PySem.W.excInit_of I1.kIn T.q
  have n1 : H1 (hp.objs.size + 1) = none := I1.hok.fresh (Nat.le_succ _)
  have hget : ((hp.push (PySem.W.kdv_tup us)).push (PySem.HandSPX.excO C hp.objs.size)).get? (hp.objs.size + 1) = some (PySem.HandSPX.excO C hp.objs.size) := by heap_get
  have kk : ∀ (b : Addr) (o : Obj), hp.get? b = some o → ((hp.push (PySem.W.kdv_tup us)).push (PySem.HandSPX.excO C hp.objs.size)).get? b = some o := fun b o q => Heap.get?_push_of_some _ (Heap.get?_push_of_some _ q)
  have I2 : Inv X pins σ (upd H1 (hp.objs.size + 1) (exo (hp.objs.size + 1) C none)) ⟨(hp.push (PySem.W.kdv_tup us)).push (PySem.HandSPX.excO C hp.objs.size), g, dr, tk, os⟩ :=
    I1.laid (t' := tk) (o := exo (hp.objs.size + 1) C none) kk (Nat.le_succ _) (exo_ok hget)
  have r2 : Vals [V.ref (hp.objs.size + 1), v] (Value.ref (hp.objs.size + 1) :: us) := .cons rfl r1
  have hlen : us.length = 1 := by rw [← r1.length]; rfl
  have bb := hb _ (Value.ref (hp.objs.size + 1) :: us) I2.kIn (by rw [List.append_nil, List.length_cons, hlen]; rfl)
  rw [List.append_nil] at bb
  refine wpAny_call (PySem.HandSPX.call_own T.fb hT hC (PySem.W.looks_findIn I1.kIn iC) (fun self => PySem.W.bind_fn I1.kIn self tI) (by rw [hlen, sizeLine_eq]; omega) ?_)
  refine codeAny_mono (F1.run _ X.stack _ _ ⟨Value.ref (hp.objs.size + 1) :: us, []⟩ _ _ (fun v' H2 => v' = .non ∧ ∃ d, H1 d = none ∧ d ≠ hp.objs.size + 1 ∧ H2 = upd (upd (upd H1 (hp.objs.size + 1) (exo (hp.objs.size + 1) C none)) d (exd d [(f, v)])) (hp.objs.size + 1) (exo (hp.objs.size + 1) C (some d))) (fun _ _ _ => False) (hr.make C us []) (I2.env0.make C us []) bb r2 ?_) fun r s' hq => ?_
  · refine ⟨_, C, v, B, newId, initId, bmB, rfl, T, hno, upd_same, fun d nd ne => ⟨rfl, d, ?_, ne, rfl⟩⟩
    rw [upd_ne ne] at nd; exact nd
  · match r, hq with
    | .error _, hq => exact False.elim hq
    | .ok .next, hq => exact False.elim hq
    | .ok .brk, hq => exact False.elim hq
    | .ok .cont, hq => exact False.elim hq
    | .ok (.ret u), ⟨v', H2, os2, bare2, un2, hok2, rv, ev, d, nd, ne, eH⟩ =>
      subst ev
      obtain ⟨h2, g2, d2, t2, os'⟩ := s'
      have ea : H2 (hp.objs.size + 1) = some (exo (hp.objs.size + 1) C (some d)) := by rw [eH, upd_same]
      have ed : H2 d = some (exd d [(f, v)]) := by rw [eH, upd_ne ne, upd_same]
      refine ⟨rv, mk_end (raises_own T.ex T.ty) I1 (Nat.le_succ _) kk un2 hok2 os2 bare2 ea ed nd ?_⟩
      have eq : upd (L2.del H2 (hp.objs.size + 1)) d (.xd [(f, v)]) = upd H1 d (.xd [(f, v)]) := by
        funext b
        by_cases z : b = d
        · subst z; rw [upd_same, upd_same]
        · rw [upd_ne z, upd_ne z]
          by_cases y : b = hp.objs.size + 1
          · subst y; rw [del_same, n1]
          · rw [del_ne y, eH, upd_ne y, upd_ne z, upd_ne y]
      rw [eq]
      exact q1 d nd
end
end Rf

namespace Rf
open PySem PySem.Spec PyProof.Rows L2
theorem flying_on {B h h' : Heap} {l : List Env} {a : Addr} {Z : Obj → Prop} (k : ∀ b o, h.get? b = some o → h'.get? b = some o) (f : HandSPX.FlyingZ B l a Z h) : HandSPX.FlyingZ B l a Z h' := by
  obtain ⟨f1, f2, f3, oe, vs, T, oT, ts, g1, g2, g3, g4, g5, g6, g7, g8, g9⟩ := f
  exact ⟨fun b o e => k b o (f1 b o e), f2, f3.of_keeps fun b o e _ => ⟨o, k b o e, rfl⟩, oe, vs, T, oT, ts, k _ _ g1, g2, g3, g4, g5, g6, k _ _ g7, g8, g9⟩
structure Met (X : Cx) (pins : List (Addr × Obj)) (σ : L2.St) (H : Hp) (cls : Value) (d : Option Addr) (a : Addr) (B : Heap) (sI s : Shared) : Prop where
  J : Inv X pins σ H sI
  nb : ∀ b o, sI.heap.get? b = some o → b ∉ frs X.stack → B.get? b = some o
  up : sI.heap.UpToSlots s.heap
  fl : HandSPX.FlyingZ B (X.env :: X.outer) a (Zc cls d) s.heap
  na : H a = none
  os : s.os = sI.os
  ag : AllBare s.gens
theorem Met.on {X : Cx} {pins : List (Addr × Obj)} {σ : L2.St} {H : Hp} {cls : Value} {d : Option Addr} {a : Addr} {B : Heap} {sI s s' : Shared} (m : Met X pins σ H cls d a B sI s) (fl : HandSPX.FlyingZ B (X.env :: X.outer) a (Zc cls d) s'.heap) (up : s.heap.UpToSlots s'.heap) (os : s'.os = s.os) (ag : AllBare s'.gens) : Met X pins σ H cls d a B sI s' :=
  ⟨m.J, m.nb, m.up.trans up, fl, m.na, os.trans m.os, ag⟩
section
variable {X : Cx} {pins : List (Addr × Obj)} {σ : L2.St} {H : Hp} {cls : Value} {d : Option Addr} {a : Addr} {B : Heap} {sI s : Shared}
theorem Met.inv (m : Met X pins σ H cls d a B sI s) : Inv X pins σ H s := m.J.landed m.nb m.fl.1 m.up m.os m.ag
theorem Met.notFr (m : Met X pins σ H cls d a B sI s) : a ∉ frs (X.env :: X.outer) := fun hm => by
  obtain ⟨oe, vs, he, _, hd⟩ := m.fl.there
  obtain ⟨_, o', e', hnf⟩ := m.fl.2.2.1.mem hm
  rw [he] at e'; cases e'
  exact hnf _ hd
theorem Met.nL (m : Met X pins σ H cls d a B sI s) (hf : X.env.frame = some X.env.locals) : a ≠ X.env.locals := fun z => m.notFr (List.mem_filterMap.mpr ⟨X.env, List.mem_cons_self, by rw [hf, z]⟩)
theorem Met.nF (m : Met X pins σ H cls d a B sI s) : a ∉ X.fs := fun hm => by
  obtain ⟨e, he, q⟩ := List.mem_filterMap.mp hm
  exact m.notFr (List.mem_filterMap.mpr ⟨e, List.mem_cons_of_mem _ he, q⟩)
theorem Met.newI (m : Met X pins σ H cls d a B sI s) (hs : X.stack = X.env :: X.outer) : sI.heap.get? a = none := by
  cases q : sI.heap.get? a with
  | none => rfl
  | some o =>
    have := m.nb a o q (by rw [hs]; exact m.notFr)
    rw [m.fl.2.1] at this; cases this
theorem Met.suite (m : Met X pins σ H cls d a B sI s) (hf : X.env.frame = some X.env.locals) : ∃ oe vs, s.heap.get? a = some oe ∧ Zc cls d oe ∧ oe.data = .fields vs ∧ Inv (X.suite a ((a, oe) :: (X.pn ++ pins))) [] σ H s := by
  obtain ⟨oe, vs, he, hz, hd⟩ := m.fl.there
  exact ⟨oe, vs, he, hz, hd, m.inv.suite he hd m.na (m.nL hf) m.nF⟩
end
section
variable {X : Cx} {body : List Stmt} {hdl : ExceptHandler} {pos : Pos} {tb : WX → TS} {Wc : Ends → WX}
theorem try_gen (hs : X.stack = X.env :: X.outer) (hf : X.env.frame = some X.env.locals)
    (hb : ∀ (W : WX) (pn : List (Addr × Obj)) (xe : Value → Shared → Prop), Takes (X.tr pn xe) W → PassesOwn (model X.prog X.w) X.A X.env xe → PSs (X.tr pn xe) body (tb W))
    (hh : ∀ (pins : List (Addr × Obj)) (σ : L2.St) (H : Hp) (D : Ends) (cls : Value) (d : Option Addr) (a : Addr) (B : Heap) (sI s : Shared), Met X pins σ H cls d a B sI s → Wc D cls d σ H → wpAny (model X.prog X.w) X.A (handleBy (.ref a) X.env [hdl]) (SP X pins D) X.xe s) :
    PS X (.Try body [hdl] [] [] pos) (fun D σ H => tb (Wc D) D σ H) := by
  refine ⟨fun pins s σ H D I h => wpAny_Try_except ?_⟩
  have ok := I.ok
  have frm : X.A.frames = some (X.env :: X.outer) := by rw [ok.frames, hs]
  have run := (hb (Wc D) (X.pn ++ pins) (fun e s₁ => wpAny (model X.prog X.w) X.A (noteFrame e X.env) (fun _ s₂ => wpAny (model X.prog X.w) X.A (setFlight e none) (fun _ s₃ => wpAny (model X.prog X.w) X.A (handleBy e X.env [hdl]) (SP X pins D) X.xe s₃) X.xe s₂) X.xe s₁) (fun u s' xx => ?_) PassesOwn.looking).run [] s σ H D (I.toTry _) h
  · refine wpAny_mono run (fun f s1 hsp => ?_) (fun e s1 he => he)
    match f, hsp with
    | .next, ⟨σ', H', J', q⟩ => exact wpAny_execs_nil ⟨σ', H', J'.ofTry ok, q⟩
    | .brk, ⟨σ', H', J', q⟩ => exact ⟨σ', H', J'.ofTry ok, q⟩
    | .cont, ⟨σ', H', J', q⟩ => exact ⟨σ', H', J'.ofTry ok, q⟩
    | .ret u, ⟨v, σ', H', J', r, q⟩ => exact ⟨v, σ', H', J'.ofTry ok, r, q⟩
  · obtain ⟨a, B, sI, pins', σ', H', cls, d, rfl, J', nb, up, sky, na, os, ag, w⟩ := xx
    have sky' : Sky B (X.env :: X.outer) a (Zc cls d) X.env.locals s'.heap := by rw [← hs]; exact sky
    refine Sky.land Zc.steady frm hf sky' fun h3 fl3 up3 => ?_
    exact hh pins σ' H' D cls d a B sI _ ⟨J'.ofTry ok, nb, up.trans up3, fl3, na, os, ag⟩ w
end
theorem pe_cls {X : Cx} {x : Str} {C : Addr} {p : Pos} (hg : Gl X x) (hm : X.mg x = some (.ref C)) (hdb : (x == ("__debug__" : Str)) = false) : PE X (.Name x p) (fun σ H Q => Q (.ref C) H) := ⟨fun pins s σ H Q I h => ld_glob I hg hm ⟨.ref C, H, I, rfl, h⟩ hdb⟩
inductive ClsNs (X : Cx) : List Expr → List Addr → Prop
  | nil : ClsNs X [] []
  | cons {x : Str} {p : Pos} {C : Addr} {es : List Expr} {Cs : List Addr} (hg : Gl X x) (hm : X.mg x = some (.ref C)) (hdb : (x == ("__debug__" : Str)) = false) (r : ClsNs X es Cs) : ClsNs X (.Name x p :: es) (C :: Cs)
theorem spliced_cls {X : Cx} {pins : List (Addr × Obj)} {σ : L2.St} {H : Hp} {s : Shared} {E : Value → Shared → Prop} {pos : Pos} (S : Inv X pins σ H s) : ∀ {es : List Expr} {Cs : List Addr} {Q : List Value → Shared → Prop}, ClsNs X es Cs → Q (Cs.map Value.ref) s → wpAny (model X.prog X.w) X.A (spliced (backTo pos (starEach es X.env))) Q E s
  | _, _, _, .nil, q => Calls.spliced_nil q
  | _, _, _, .cons hg hm hdb r, q => Calls.spliced_cons (ld_glob S hg hm (spliced_cls (Q := fun vs s' => _ ) S r q) hdb)
inductive ClsE (X : Cx) : Expr → List Addr → Prop
  | one {x : Str} {p : Pos} {C : Addr} (hg : Gl X x) (hm : X.mg x = some (.ref C)) (hdb : (x == ("__debug__" : Str)) = false) : ClsE X (.Name x p) [C]
  | tup {es : List Expr} {k : Nat} {p : Pos} {Cs : List Addr} (h : ClsNs X es Cs) (hl : Cs.length = 3 ∨ Cs.length = 4) : ClsE X (.Tuple es k p) Cs
theorem exm_refs {K : PySem.W.Frag} {M : Model} {h : Heap} {e tp : Addr} {cls : Value} {b : Bool} {Cs : List Addr} (X : K.In h) (LT : PySem.W.Looks M h (typeOf (.ref e)) cls) (hp : h.get? tp = some { cls := .type "tuple", data := .seq (Cs.map Value.ref).toArray }) (hl : Cs.length = 3 ∨ Cs.length = 4)
    (hx : PySem.W.exmAny K cls (Cs.map Value.ref) = some b) : PySem.W.Looks M h (excMatches (.ref e) (.ref tp)) b := by
  match Cs, hl with
  | [c1, c2, c3], _ => exact PySem.W.exm_tup3 X LT hp hx
  | [c1, c2, c3, c4], _ => exact PySem.W.exm_tup4 X LT hp hx
  | [], h => simp at h
  | [_], h => simp at h
  | [_, _], h => simp at h
  | _ :: _ :: _ :: _ :: _ :: _, h => simp at h
section
variable {X : Cx} {pins : List (Addr × Obj)} {σ : L2.St} {H : Hp} {cls : Value} {d : Option Addr} {a : Addr} {B : Heap} {sI s : Shared}
theorem Met.test {t : Expr} {Cs : List Addr} {E : Value → Shared → Prop} {Q : Value → Shared → Prop} (m : Met X pins σ H cls d a B sI s) (hs : X.stack = X.env :: X.outer) (hf : X.env.frame = some X.env.locals) (hc : ClsE X t Cs) (hx : PySem.W.exmAny X.K cls (Cs.map Value.ref) = some true)
    (h : ∀ c s', Met X pins σ H cls d a B sI s' → PySem.W.Looks (model X.prog X.w) s'.heap (excMatches (.ref a) c) true → Q c s') : wpAny (model X.prog X.w) (X.A.mark (some (.ref a))) (eval t X.env) Q E s := by
  obtain ⟨oe, vs, he, hz, hd, S⟩ := m.suite hf
  have LT : ∀ {h' : Heap}, h'.get? a = some oe → PySem.W.Looks (model X.prog X.w) h' (typeOf (.ref a)) cls := fun {h'} e A Q E s k q => wpAny_typeOf_ref (k _ _ e) (by rw [hz.1]; exact q)
  cases hc with
  | one hg hm hdb =>
    refine ld_glob (X := X.suite a ((a, oe) :: (X.pn ++ pins))) S hg hm (h _ s m ?_) hdb
    obtain ⟨b1, d1, x1, y1, z1⟩ := PySem.W.exmAny_cons hx
    have : d1 = false := (Option.some.inj y1).symm
    subst this
    rw [Bool.or_false] at z1
    subst z1
    exact PySem.W.exm_one m.inv.kIn (LT he) x1
  | tup hns hl =>
    rename_i es k p
    have hp' : ClsNs (X.suite a ((a, oe) :: (X.pn ++ pins))) es Cs := by
      clear hx hl
      induction hns with
      | nil => exact .nil
      | cons hg hm hdb r ih => exact .cons hg hm hdb ih
    refine wpAny_Tuple_spliced (spliced_cls (X := X.suite a ((a, oe) :: (X.pn ++ pins))) S hp' ⟨by rw [List.length_map, sizeLine_eq]; omega, ?_⟩)
    have kk : ∀ (b : Addr) (o : Obj), s.heap.get? b = some o → (s.heap.push { cls := .type "tuple", data := .seq (Cs.map Value.ref).toArray }).get? b = some o := fun b o q => Heap.get?_push_of_some _ q
    have m' : Met X pins σ H cls d a B sI { s with heap := s.heap.push { cls := .type "tuple", data := .seq (Cs.map Value.ref).toArray } } := m.on (flying_on kk m.fl) (.of_keeps kk) rfl m.ag
    exact h _ _ m' (exm_refs m'.inv.kIn (LT (kk _ _ he)) (Heap.get?_push_size _ rfl) hl hx)
theorem inv_track {C : Addr} {vs : Array Value} {oe : Obj} (I : Inv X ((a, oe) :: pins) σ H s) (z1 : oe.cls = .ref C) (z2 : oe.dict = d) (z3 : oe.data = .fields vs) (h0 : X.s_0.heap.get? a = none) (np : ∀ p ∈ X.pn ++ pins, p.1 ≠ a) : Inv X pins σ (upd H a (exk a C d)) s := by
  obtain ⟨pa, pn, pL, pF, _⟩ : s.heap.get? a = some oe ∧ H a = none ∧ a ≠ X.env.locals ∧ a ∉ X.fs ∧ ∀ v, oe.data ≠ .cell v := I.pin (a, oe) (by simp)
  have ne : ∀ {b : Addr} {o : HO}, H b = some o → b ≠ a := fun {b o} q z => by subst z; rw [pn] at q; cases q
  refine ⟨I.ok, I.os, I.bare, ⟨I.base.keep, I.base.slot, fun b o e n hx => ?_, I.base.there, fun b xs q => ?_, fun b o u q => ?_, fun b ps q => ?_⟩, I.loc, I.cell, ?_, fun x c e => ?_, fun p hp => ?_, fun b o q => ?_, I.len⟩
  · have : b ≠ a := fun z => by subst z; rw [h0] at e; cases e
    rw [upd_ne this]; exact I.base.free b o e n hx
  · have := I.base.tups b xs q
    rw [upd_ne (ne this)]; exact this
  · have := I.base.frzs b o u q
    rw [upd_ne (ne this)]; exact this
  · obtain ⟨more, this⟩ := I.base.tbls b ps q
    exact ⟨more, by rw [upd_ne (ne this)]; exact this⟩
  · rw [upd_ne (Ne.symm pL)]; exact I.free
  · have : c ≠ a := fun z => by
      subst z
      obtain ⟨v, y⟩ := I.cell x c e
      obtain ⟨o, y1, y2⟩ := y
      rw [pa] at y1; cases y1
      rw [z3] at y2; cases y2
    rw [upd_ne this]; exact I.freeC x c e
  · obtain ⟨y1, y2, y3, y4, y5⟩ := I.pin p (by
      rcases List.mem_append.mp hp with h | h
      · exact List.mem_append_left _ h
      · exact List.mem_append_right _ (List.mem_cons_of_mem _ h))
    exact ⟨y1, by rw [upd_ne (np p hp)]; exact y2, y3, y4, y5⟩
  · by_cases z : b = a
    · subst z
      rw [upd_same] at q; cases q
      exact ⟨⟨oe, vs, pa, z1, z2, z3⟩, ⟨_, pa⟩, fun h1 h2 ⟨o', v', y1, y2⟩ k => ⟨o', v', k _ y1, y2⟩⟩
    · rw [upd_ne z] at q
      exact (I.hok b o q).stay (fun c v _ y => y) (fun c hc => by rw [upd_ne (ne hc)]; exact hc) fun c xs hc => by rw [upd_ne (ne hc)]; exact hc
end
section
variable {X : Cx} {body : List Stmt} {pos : Pos} {tb : WX → TS} {n y : Str} {i j : Nat} {t : Expr} {Cs : List Addr} {py pz ap pos' : Pos}
def wCaught (K : PySem.W.Frag) (Cs : List Addr) (i j : Nat) (D : Ends) : WX := fun cls d σ H => PySem.W.exmAny K cls (Cs.map Value.ref) = some true ∧ ∃ C, cls = .ref C ∧ ∀ a, H a = none → D.nx (((σ.set j (some (.ref a))).set i (some (.ref a))).set j none) (upd H a (exk a C d))
theorem ps_try_caught (hs : X.stack = X.env :: X.outer) (hf : X.env.frame = some X.env.locals) (hex : X.ex = []) (hN : X.N.Nodup) (hj : X.N[j]? = some n) (hln : X.env.kindOf n = some .local) (hn1 : (n == ("__debug__" : Str)) = false) (hn2 : (n == ("__classdict__" : Str)) = false)
    (hi : X.N[i]? = some y) (hyl : Loc X.env.scope y) (hyf : X.fn y = true ∨ X.env.scope.names.lookup y = some .local) (hc : ClsE X t Cs)
    (hb : ∀ (W : WX) (pn : List (Addr × Obj)) (xe : Value → Shared → Prop), Takes (X.tr pn xe) W → PassesOwn (model X.prog X.w) X.A X.env xe → PSs (X.tr pn xe) body (tb W)) :
    PS X (.Try body [.ExceptHandler (some t) (some n) [.Assign [.Name y py] (.Name n pz) ap] pos'] [] [] pos) (fun D σ H => tb (wCaught X.K Cs i j D) D σ H) := by
  refine try_gen hs hf hb fun pins σ H D cls d a B sI s m w => ?_
  obtain ⟨hx, C, rfl, hq⟩ := w
  have ok := m.J.ok
  refine wpAny_handleBy_cons (codeAny_handlers_test (m.test hs hf hc hx fun c s1 m1 L => L.here ?_)) (by intro q; cases q)
  refine codeAny_handlers_suite_as (HandSPX.lands_againZ m1.fl fun h4 fl4 up4 => ?_)
  have m4 : Met X pins σ H (.ref C) d a B sI { s1 with heap := h4 } := m1.on fl4 up4 rfl m1.ag
  obtain ⟨oe, vs, he, hz, hd, S4⟩ := m4.suite hf
  refine store_ok (X := X.suite a ((a, oe) :: (X.pn ++ pins))) (v := .ref a) S4 hN hj (.inl hln) rfl (fun s5 S5 => ?_) (.inr hln)
  have hjσ : j < σ.length := by rw [m.J.len]; exact (List.getElem?_eq_some_iff.mp hj).1
  have su : PSs (X.suite a ((a, oe) :: (X.pn ++ pins))) [.Assign [.Name y py] (.Name n pz) ap] _ := pss_one (ps_set hN hi hyl (pe_var (i := j) hj (.inl hln) hn1 hn2) rfl hyf)
  refine wpAny_mono (su.run [] s5 _ H { nx := fun σ' H' => H' = H ∧ σ' = (σ.set j (some (.ref a))).set i (some (.ref a)), rt := fun _ _ => False, bk := fun _ _ => False, ct := fun _ _ => False } S5 ⟨.ref a, List.getElem?_set_self hjσ, rfl, rfl⟩) (fun f s6 hsp => ?_) (fun _ _ z => z.elim)
  match f, hsp with
  | .brk, ⟨_, _, _, z⟩ => exact z.elim
  | .cont, ⟨_, _, _, z⟩ => exact z.elim
  | .ret u, ⟨_, _, _, _, _, z⟩ => exact z.elim
  | .next, ⟨σ6, H6, S6, eH, eσ⟩ =>
    subst eH eσ
    have I6 : Inv X ((a, oe) :: pins) _ H6 s6 := ⟨ok, S6.os, S6.bare, S6.base, S6.loc, S6.cell, S6.free, S6.freeC, fun p hp => S6.pin p (by
      rcases List.mem_append.mp hp with h | h
      · exact List.mem_append_left _ (List.mem_cons_of_mem _ (List.mem_append_left _ h))
      · rcases List.mem_cons.mp h with h | h
        · subst h; exact List.mem_append_left _ (List.mem_cons_self ..)
        · exact List.mem_append_left _ (List.mem_cons_of_mem _ (List.mem_append_right _ h))), S6.hok, S6.len⟩
    refine gone_ok I6 hN hj hln fun s7 J7 => ⟨_, _, inv_track J7 hz.1 hz.2 hd ?_ (fun p hp z => ?_), hq a m.na⟩
    · cases q : X.s_0.heap.get? a with
      | none => rfl
      | some o =>
        obtain ⟨o', z⟩ := m.J.base.there a o q (by rw [hex]; simp)
        rw [m.newI hs] at z; cases z
    · have := (m.J.pin p hp).1
      rw [z, m.newI hs] at this; cases this
def wRet (K : PySem.W.Frag) (Cs : List Addr) (v : V) (D : Ends) : WX := fun cls d σ H => PySem.W.exmAny K cls (Cs.map Value.ref) = some true ∧ D.rt v H
theorem ps_try_ret {su : List Stmt} {st : Stmt} {v : V} {e : Expr} {rp : Pos} (hs : X.stack = X.env :: X.outer) (hf : X.env.frame = some X.env.locals) (hc : ClsE X t Cs) (he : ∀ X' : Cx, PE X' e (fun σ H Q => Q v H))
    (hb : ∀ (W : WX) (pn : List (Addr × Obj)) (xe : Value → Shared → Prop), Takes (X.tr pn xe) W → PassesOwn (model X.prog X.w) X.A X.env xe → PSs (X.tr pn xe) body (tb W)) :
    PS X (.Try body [.ExceptHandler (some t) none [.Return (some e) rp] pos'] [] [] pos) (fun D σ H => tb (wRet X.K Cs v D) D σ H) := by
  refine try_gen hs hf hb fun pins σ H D cls d a B sI s m w => ?_
  obtain ⟨hx, hq⟩ := w
  have ok := m.J.ok
  refine wpAny_handleBy_cons (codeAny_handlers_test (m.test hs hf hc hx fun c s1 m1 L => L.here ?_)) (by intro q; cases q)
  refine codeAny_handlers_suite (HandSPX.lands_againZ m1.fl fun h4 fl4 up4 => ?_)
  have m4 : Met X pins σ H cls d a B sI { s1 with heap := h4 } := m1.on fl4 up4 rfl m1.ag
  obtain ⟨oe, vs, he', hz, hd, S4⟩ := m4.suite hf
  have su : PSs (X.suite a ((a, oe) :: (X.pn ++ pins))) [.Return (some e) rp] _ := pss_one (ps_ret (he _))
  refine wpAny_mono (su.run [] _ _ H { nx := fun _ _ => False, rt := fun u H' => u = v ∧ H' = H, bk := fun _ _ => False, ct := fun _ _ => False } S4 ⟨rfl, rfl⟩) (fun f s6 hsp => ?_) (fun _ _ z => z.elim)
  match f, hsp with
  | .next, ⟨_, _, _, z⟩ => exact z.elim
  | .brk, ⟨_, _, _, z⟩ => exact z.elim
  | .cont, ⟨_, _, _, z⟩ => exact z.elim
  | .ret u, ⟨v6, σ6, H6, S6, r6, e1, e2⟩ =>
    subst e1 e2
    exact ⟨_, _, _, S6.unsuite ok, r6, hq⟩
end
end Rf

namespace Rf
open PySem PySem.Spec PyProof.Rows L2
theorem ss_raise {X : Cx} {ro : List Nat} {e : Expr} {ma : MA} {x f : Str} {p pos pos' : Pos} {C fI : Addr} {fd : FuncData} {B newId initId : String} {bmB : List Value} (hc : X.calm = true) (T : XC X.K C B newId initId bmB)
    (iC : PySem.W.findIn X.K (.ref C) "__init__" = some (some (.ref fI))) (tI : PySem.W.typeIn X.K (.ref fI) = some (.type "function")) (hno : PySem.W.findIn X.K (.ref C) f = some none) (F1 : FnOk X.prog X.w X.K X.mg X.base CX0 1 fI fd ["self", f] (spIn X.K f)) (hr : Room 2 X.A) (hb : Binds X.K fd ["self", f] [])
    (hg : Gl X x) (hm : X.mg x = some (.ref C)) (hn : PySem.W.nsIn X.K mainGlobals x = some (some (.ref C))) (ha : SA X [e] ma) (hdb : (x == ("__debug__" : Str)) = false) (hs : isStar e = false) : SS X ro (.Raise (some (.Call (.Name x p) [e] [] pos)) none pos') (mRaise x f ma) :=
  fun W tk => ps_le (ps_raise hc tk (pmk_x T iC tI hno F1 hr hb hg hm ha hdb hs)) fun D σ H ⟨F, fm, fl, fm', R, em, q⟩ => by
    unfold mRaise at em
    split at em
    · rename_i v fm1 e1
      split at em
      · rename_i pd fm2 e2
        cases em
        refine ⟨F, fm, [v], fm1, R, e1, fun xs F1 H1 A1 V1 N1 => ?_⟩
        cases V1 with
        | cons hv hr' hd' =>
          cases hr'
          rename_i y
          cases N1 with
          | cons hn1 _ =>
            refine ⟨y, rfl, fun dx nd => ?_⟩
            obtain ⟨F2, A2, D2⟩ := A1.frz hv hn1 e2
            have A3 := A2.trans (Aft.lay (o := .xd [(f, y)]) A2.rel nd)
            exact q σ F2 _ A3.s _ _ ⟨C, rfl, hn, .inr ⟨f, pd, dx, y, rfl, rfl, upd_same, D2⟩⟩ fun dx' h => by cases h; exact A2.ext.grow dx nd
      · cases em
    · cases em
theorem caught_aft {K : PySem.W.Frag} {ro : List Nat} {σ σ' : L2.St} {F H F' H' : Hp} {fm fm1 : Fm} {x : Xc} {C a : Addr} {d : Option Addr} {i j : Nat} (A : AftS K ro σ F H fm σ' F' H' fm1) (hi : i ∉ ro) (hj : j ∉ ro) (hij : i ≠ j) (xr : XRel K F' H' x (.ref C) d) (xn : XNew H d) (na : H' a = none) :
    ∃ F2, AftS K ro σ F H fm (((σ'.set j (some (.ref a))).set i (some (.ref a))).set j none) F2 (upd H' a (exk a C d)) ((fm1.set i (some (.own (.exc x.nm x.fs)))).set j none) := by
  obtain ⟨C', ec, hn, hfs⟩ := xr
  cases ec
  have R := A.rel
  have hF : ∃ F2 : Hp, Same F' F2 ∧ Same F2 (upd H' a (exk a C d)) ∧ F2 a = none ∧ (∀ b o, F2 b = some o → F' b = some o ∨ H b = none) ∧ (∀ p vs, H' p = some (.lst vs) → F' p = none → F2 p = none) ∧ (∀ p c d', H' p = some (exk p c d') → F' p = none → F2 p = none) ∧
      ((x.fs = [] ∧ d = none) ∨ ∃ (f : Str) (pd : PyData) (dx : Addr) (v : V), x.fs = [(f, pd)] ∧ d = some dx ∧ F2 dx = some (.xd [(f, v)]) ∧ Dq K F2 v pd) := by
    have sU : Same H' (upd H' a (exk a C d)) := Same.upd' na
    rcases hfs with ⟨h1, h2⟩ | ⟨f, pd, dx, v, h1, h2, h3, h4⟩
    · exact ⟨F', Same.refl _, R.sub.trans sU, R.sub.free na, fun b o h => .inl h, fun p vs _ h => h, fun p c d' _ h => h, .inl ⟨h1, h2⟩⟩
    · have ne : dx ≠ a := fun z => by subst z; rw [na] at h3; cases h3
      have s2 : Same F' (upd F' dx (.xd [(f, v)])) := fun b o h => by
        by_cases z : b = dx
        · subst z
          have := R.sub b o h
          rw [h3] at this; cases this
          exact upd_same
        · rw [upd_ne z]; exact h
      refine ⟨upd F' dx (.xd [(f, v)]), s2, fun b o h => ?_, by rw [upd_ne (Ne.symm ne)]; exact R.sub.free na, fun b o h => ?_, fun p vs h h' => ?_, fun p c d' h h' => ?_, .inr ⟨f, pd, dx, v, h1, h2, upd_same, dp_mono s2 h4⟩⟩
      · by_cases z : b = dx
        · subst z
          rw [upd_same] at h; cases h
          rw [upd_ne ne]; exact h3
        · rw [upd_ne z] at h; exact sU b o (R.sub b o h)
      · by_cases z : b = dx
        · subst z; exact .inr (xn b h2)
        · rw [upd_ne z] at h; exact .inl h
      · have z : p ≠ dx := fun z => by subst z; rw [h3] at h; cases h
        rw [upd_ne z]; exact h'
      · have z : p ≠ dx := fun z => by
          subst z; rw [h3] at h
          have h := Option.some.inj h
          unfold exk at h
          cases h
        rw [upd_ne z]; exact h'
  obtain ⟨F2, s2, sH, nF, new2, keepL, keepE, hfs2⟩ := hF
  have hlen := R.len
  have slotC : ∀ {k : Nat} {s : S0}, ((fm1.set i (some (.own (.exc x.nm x.fs)))).set j none)[k]? = some (some s) → (k = i ∧ k ≠ j ∧ k < fm1.length ∧ s = .own (.exc x.nm x.fs)) ∨ (k ≠ i ∧ k ≠ j ∧ fm1[k]? = some (some s)) := fun {k s} h => by
    rcases get_set h with ⟨rfl, e, _⟩ | ⟨ne, h⟩
    · cases e
    · rcases get_set h with ⟨rfl, e, hl⟩ | ⟨ne2, h⟩
      · cases e; exact .inl ⟨rfl, Ne.symm ne, hl, rfl⟩
      · exact .inr ⟨Ne.symm ne2, Ne.symm ne, h⟩
  have σi : ∀ {k : Nat}, k = i → k < fm1.length → (((σ'.set j (some (.ref a))).set i (some (.ref a))).set j none)[k]? = some (some (.ref a)) := fun {k} e hl => by
    subst e
    rw [List.getElem?_set_ne (Ne.symm hij), List.getElem?_set_self (by rw [List.length_set]; omega)]
  have σo : ∀ {k : Nat}, k ≠ i → k ≠ j → (((σ'.set j (some (.ref a))).set i (some (.ref a))).set j none)[k]? = σ'[k]? := fun {k} h1 h2 => by
    rw [List.getElem?_set_ne (Ne.symm h2), List.getElem?_set_ne (Ne.symm h1), List.getElem?_set_ne (Ne.symm h2)]
  have ownNe : ∀ {k : Nat} {c : Cell} {p : Addr}, fm1[k]? = some (some (.own c)) → σ'[k]? = some (some (.ref p)) → p ≠ a := fun {k c p} h1 h2 z => by
    subst z
    obtain ⟨p', e1, _, cr⟩ := R.own k c h1
    rw [h2] at e1; cases e1
    obtain ⟨o, ho⟩ := cr.some'
    rw [na] at ho; cases ho
  refine ⟨F2, ⟨A.ext.same.trans s2, fun b o hl h => ?_, fun b o h => ?_, fun b h => ?_, fun b h => ?_⟩, ⟨sH, by simp only [List.length_set]; exact hlen, fun k pd h => ?_, fun k c h => ?_, fun k l c c' p hne h1 h2 h3 h4 => ?_⟩, fun k hk => ?_⟩
  · have h1 := A.ext.keep b o hl h
    have : b ≠ a := fun z => by subst z; rw [na] at h1; cases h1
    rw [upd_ne this]; exact h1
  · rcases new2 b o h with h | h
    · exact A.ext.new b o h
    · exact .inr (.inl h)
  · obtain ⟨k, c, h1, h2⟩ := h
    rcases slotC h1 with ⟨e, _, hl, _⟩ | ⟨n1, n2, h1⟩
    · rw [σi e hl] at h2; cases h2
      exact .inr (A.ext.grow a na)
    · rw [σo n1 n2] at h2
      exact A.ext.live b ⟨k, c, h1, h2⟩
  · refine A.ext.grow b ?_
    by_cases z : b = a
    · subst z; exact na
    · rw [upd_ne z] at h; exact h
  · rcases slotC h with ⟨_, _, _, e⟩ | ⟨n1, n2, h⟩
    · cases e
    · obtain ⟨v, h1, h2⟩ := R.dat k pd h
      exact ⟨v, by rw [σo n1 n2]; exact h1, dp_mono s2 h2⟩
  · rcases slotC h with ⟨e1, e2, hl, e⟩ | ⟨n1, n2, h⟩
    · cases e
      exact ⟨a, σi e1 hl, nF, C, d, hn, upd_same, hfs2⟩
    · obtain ⟨p, h1, h2, h3⟩ := R.own k c h
      have pa := ownNe h h1
      refine ⟨p, by rw [σo n1 n2]; exact h1, ?_, h3.mono s2 fun o h => by rw [upd_ne pa]; exact h⟩
      cases c with
      | lst ds => obtain ⟨vs, q, _⟩ := h3; exact keepL p vs q h2
      | dct es => exact h3.elim
      | exc nm fs => obtain ⟨C', d', _, q, _⟩ := h3; exact keepE p C' d' q h2
  · rcases slotC h1 with ⟨e1, e2, hl, e⟩ | ⟨n1, n2, h1⟩ <;> rcases slotC h2 with ⟨g1, g2, gl, g⟩ | ⟨m1, m2, h2⟩
    · exact hne (e1.trans g1.symm)
    · rw [σi e1 hl] at h3; cases h3
      rw [σo m1 m2] at h4
      exact ownNe h2 h4 rfl
    · rw [σi g1 gl] at h4; cases h4
      rw [σo n1 n2] at h3
      exact ownNe h1 h3 rfl
    · rw [σo n1 n2] at h3
      rw [σo m1 m2] at h4
      exact R.apart k l c c' p hne h1 h2 h3 h4
  · rw [σo (fun z => hi (by subst z; exact hk)) (fun z => hj (by subst z; exact hk))]; exact A.pin k hk
section
variable {X : Cx} {ro : List Nat} {body : List Stmt} {pos : Pos} {n y : Str} {i j : Nat} {t : Expr} {Cs : List Addr} {py pz ap pos' : Pos} {m : MS} {nms : List Str}
theorem ss_tryC (hs : X.stack = X.env :: X.outer) (hf : X.env.frame = some X.env.locals) (hex : X.ex = []) (hN : X.N.Nodup) (hj : X.N[j]? = some n) (hln : X.env.kindOf n = some .local) (hn1 : (n == ("__debug__" : Str)) = false) (hn2 : (n == ("__classdict__" : Str)) = false)
    (hi : X.N[i]? = some y) (hyl : Loc X.env.scope y) (hyf : X.fn y = true ∨ X.env.scope.names.lookup y = some .local) (hro : i ∉ ro) (hrj : j ∉ ro) (hij : i ≠ j) (hc : ClsE X t Cs)
    (hM : ∀ nm ∈ nms, ∀ C, PySem.W.nsIn X.K mainGlobals nm = some (some (.ref C)) → PySem.W.exmAny X.K (.ref C) (Cs.map Value.ref) = some true)
    (hb : ∀ (pn : List (Addr × Obj)) (xe : Value → Shared → Prop), PassesOwn (model X.prog X.w) X.A X.env xe → SSs (X.tr pn xe) ro body m) :
    SS X ro (.Try body [.ExceptHandler (some t) (some n) [.Assign [.Name y py] (.Name n pz) ap] pos'] [] [] pos) (mTryC nms i j m) :=
  fun W tk => ps_le (ps_try_caught (tb := fun W' => tS X.K W' ro m) hs hf hex hN hj hln hn1 hn2 hi hyl hyf hc fun W' pn xe tk' hp => hb pn xe hp W' tk') fun D σ H ⟨F, fm, fl, fm', R, em, q⟩ => by
    unfold mTryC at em
    split at em
    · rename_i x fm1 e1
      split at em
      · rename_i hx
        cases em
        refine ⟨F, fm, _, fm1, R, e1, fun σ' F' H' A cls d xr xn => ?_⟩
        obtain ⟨C, rfl, hn, hfs⟩ := id xr
        refine ⟨hM x.nm (by simpa using hx) C hn, C, rfl, fun a na => ?_⟩
        obtain ⟨F2, A2⟩ := caught_aft A hro hrj hij xr xn na
        exact q _ F2 _ A2
      · cases em
    · rename_i r hr
      refine ⟨F, fm, fl, fm', R, em, fun σ' F' H' A => ?_⟩
      have z := q σ' F' H' A
      cases fl with
      | nx => exact z
      | bk => exact z
      | ct => exact z
      | rt v => exact z
      | ex x => exact absurd em (hr x fm')
theorem ss_tryR {e : Expr} {rp : Pos} {pd : PyData} (hs : X.stack = X.env :: X.outer) (hf : X.env.frame = some X.env.locals) (hc : ClsE X t Cs) (hv : ∃ v : V, (∀ X' : Cx, PE X' e (fun σ H Q => Q v H)) ∧ ∀ F : Hp, Dq X.K F v pd)
    (hM : ∀ nm ∈ nms, ∀ C, PySem.W.nsIn X.K mainGlobals nm = some (some (.ref C)) → PySem.W.exmAny X.K (.ref C) (Cs.map Value.ref) = some true)
    (hb : ∀ (pn : List (Addr × Obj)) (xe : Value → Shared → Prop), PassesOwn (model X.prog X.w) X.A X.env xe → SSs (X.tr pn xe) ro body m) :
    SS X ro (.Try body [.ExceptHandler (some t) none [.Return (some e) rp] pos'] [] [] pos) (mTryR nms pd m) := by
  obtain ⟨v, hv1, hv2⟩ := hv
  refine fun W tk => ps_le (ps_try_ret (su := []) (st := .Pass pos) (tb := fun W' => tS X.K W' ro m) hs hf hc hv1 fun W' pn xe tk' hp => hb pn xe hp W' tk') fun D σ H ⟨F, fm, fl, fm', R, em, q⟩ => ?_
  unfold mTryR at em
  split at em
  · rename_i x fm1 e1
    split at em
    · rename_i hx
      cases em
      refine ⟨F, fm, _, _, R, e1, fun σ' F' H' A cls d xr xn => ?_⟩
      obtain ⟨C, rfl, hn, hfs⟩ := id xr
      exact ⟨hM x.nm (by simpa using hx) C hn, q σ' F' H' A v (hv2 F') trivial⟩
    · cases em
  · rename_i r hr
    refine ⟨F, fm, fl, fm', R, em, fun σ' F' H' A => ?_⟩
    have z := q σ' F' H' A
    cases fl with
    | nx => exact z
    | bk => exact z
    | ct => exact z
    | rt v => exact z
    | ex x => exact absurd em (hr x fm')
end
end Rf

namespace Rf
open PySem PySem.Spec PyProof.Rows L2
def ExA (H : Hp) (a C : Addr) : Prop := ∃ d, H a = some (exk a C d) ∧ (d = none ∨ ∃ dx fs, d = some dx ∧ H dx = some (.xd fs))
section
variable {X : Cx} {pins : List (Addr × Obj)} {σ : L2.St} {H : Hp} {s : Shared} {a C : Addr}
theorem exk_at (I : Inv X pins σ H s) (e : ExA H a C) : ∃ oe od, PySem.W.InstAt s.heap a oe C od := by
  obtain ⟨d, h1, h2⟩ := e
  have z : ObjOk X.prog X.w H s.heap a (exk a C d) := I.hok a _ h1
  obtain ⟨⟨o, vs, g1, g2, g3, g4⟩, _⟩ := z
  have nc : PySem.W.notCls o = true := by unfold PySem.W.notCls; rw [g4]
  rcases h2 with rfl | ⟨dx, fs, rfl, h3⟩
  · exact ⟨o, none, g1, g2, nc, by rw [g3]; trivial⟩
  · have y : ObjOk X.prog X.w H s.heap dx (.xd fs) := I.hok dx _ h3
    obtain ⟨mA, hns, _⟩ := y
    obtain ⟨od, ho, _⟩ := lookIn_ns hns
    exact ⟨o, some od, g1, g2, nc, by rw [g3]; exact ho⟩
def rIsX (K : PySem.W.Frag) : List V → Hp → VK → Prop := fun xs H Q => ∃ (a C : Addr) (c : V) (u : Value) (b : Bool), xs = [.ref a, c] ∧ (∀ w, RelV c w → w = u) ∧ ExA H a C ∧ XA K C ∧ PySem.W.kitOne K (.ref C) u = some b ∧ Q (.bl b) H
theorem call_isX : CallR X (.builtin "isinstance") (rIsX X.K) := by
  intro pins s σ H xs us Q I r h
  obtain ⟨a, C, c, u, b, rfl, hc, e, T, k, q⟩ := h
  obtain ⟨u1, u2, rfl, r1, r2⟩ := vals2 r
  cases (show u1 = Value.ref a from r1)
  cases hc _ r2
  obtain ⟨oe, od, J⟩ := exk_at I e
  exact PySem.W.kia_one (PySem.W.kitx_exc T.cl T.ga T.gg T.ex T.ca T.sp T.tk T.mo) I.kIn J k (fun z => nomatch z) fun tk => ⟨.bl b, H, I.kept (t' := tk) fun _ _ z => z, rfl, q⟩
def rIsXT (K : PySem.W.Frag) : List V → Hp → VK → Prop := fun xs H Q => ∃ (a C tp : Addr) (cs : List V) (us : List Value) (b : Bool), xs = [.ref a, .ref tp] ∧ H tp = some (.tup cs) ∧ (∀ ws, Vals cs ws → ws = us) ∧ ExA H a C ∧ XA K C ∧ PySem.W.kitAny K (.ref C) us = some b ∧ Q (.bl b) H
theorem call_isXT : CallR X (.builtin "isinstance") (rIsXT X.K) := by
  intro pins s σ H xs us Q I r h
  obtain ⟨a, C, tp, cs, ws, b, rfl, hT, hc, e, T, k, q⟩ := h
  obtain ⟨u1, u2, rfl, r1, r2⟩ := vals2 r
  cases (show u1 = Value.ref a from r1)
  cases (show u2 = Value.ref tp from r2)
  obtain ⟨oe, od, J⟩ := exk_at I e
  obtain ⟨its, rv, ⟨o, g1, g2, n, g3⟩, _⟩ := I.tuple (X := X) (.inl (.inl hT))
  cases hc _ rv
  obtain ⟨oc, odd, oda, osl⟩ := o
  dsimp only at g2 g3
  subst g2 g3
  exact PySem.W.kia_tup (PySem.W.kitx_exc T.cl T.ga T.gg T.ex T.ca T.sp T.tk T.mo) I.kIn J g1 k (fun z => nomatch z) fun tk => ⟨.bl b, H, I.kept (t' := tk) fun _ _ z => z, rfl, q⟩
end
section
variable {K : PySem.W.Frag} {F H : Hp} {σ : L2.St} {fm : Fm} {v : SV} {x : V} {xc : Xc}
theorem exA_of {a C : Addr} {d : Option Addr} (h1 : H a = some (exk a C d)) (h2 : (xc.fs = [] ∧ d = none) ∨ ∃ (f : Str) (pd : PyData) (dx : Addr) (w : L2.V), xc.fs = [(f, pd)] ∧ d = some dx ∧ H dx = some (.xd [(f, w)]) ∧ Dq K F w pd) : ExA H a C :=
  ⟨d, h1, h2.imp (·.2) fun ⟨f, pd, dx, w, _, r2, r3, _⟩ => ⟨dx, _, r2, r3⟩⟩
end
def ClsN (X : Cx) (x : Str) (c : V) (u : Value) : Prop := (∃ C, Gl X x ∧ X.mg x = some (.ref C) ∧ (x == ("__debug__" : Str)) = false ∧ c = .ref C ∧ u = .ref C) ∨ ∃ T, IsTyN X x T ∧ c = .ty T ∧ u = .type T
section
variable {X : Cx} {e : Expr} {es : List Expr} {x : Str} {c : V} {u : Value} {p p1 pos : Pos} {k : Nat} {m : ME} {f : Str → Option Bool}
theorem ClsN.pe (h : ClsN X x c u) : PE X (.Name x p) (fun σ H Q => Q c H) := by
  rcases h with ⟨C, h1, h2, h3, rfl, rfl⟩ | ⟨T, h, rfl, rfl⟩
  · exact pe_cls h1 h2 h3
  · exact h.pe
theorem ClsN.one (h : ClsN X x c u) : ∀ w, RelV c w → w = u := by
  rcases h with ⟨C, h1, h2, h3, rfl, rfl⟩ | ⟨T, h, rfl, rfl⟩
  · exact fun w h => h
  · exact fun w h => h
theorem se_isX (hg : Gl X "isinstance") (hm : X.mg "isinstance" = none) (he : SE X e m) (hc : ClsN X x c u) (hs : isStar e = false) (hf : ∀ nm b C, f nm = some b → PySem.W.nsIn X.K mainGlobals nm = some (some (.ref C)) → XA X.K C ∧ PySem.W.kitOne X.K (.ref C) u = some b) :
    SE X (.Call (.Name "isinstance" p) [e, .Name x p1] [] pos) (mIsX f m) := by
  have s1 : starEach [e, .Name x p1] X.env = (false, eval e X.env) :: starEach [.Name x p1] X.env := star_cons hs
  refine pe_le (pe_callB call_isX hg hm boot_isinstance (pa_cons he (pa_cons hc.pe pa_nil) s1) (by decide) (by decide) s1) fun σ H Q h => ?_
  obtain ⟨F, fm, v, fm', R, em, q⟩ := h
  unfold mIsX at em
  split at em
  · rename_i w fm1 e1
    split at em
    · rename_i xc hx
      split at em
      · rename_i b hb
        cases em
        refine ⟨F, fm, w, _, R, e1, fun x F1 H1 A1 V1 N1 => ?_⟩
        obtain ⟨a, C, d, rfl, hn, h1, h2⟩ := exc_ok A1.rel V1 hx
        obtain ⟨T, hk⟩ := hf _ b C hb hn
        exact ⟨a, C, c, u, b, rfl, hc.one, exA_of h1 h2, T, hk, q _ F1 H1 A1 (.bl b) VNew.dat⟩
      · cases em
    · cases em
  · cases em
inductive ClsNL (X : Cx) : List Expr → List V → List Value → Prop
  | nil : ClsNL X [] [] []
  | cons {x : Str} {p : Pos} {c : V} {u : Value} {es : List Expr} {cs : List V} {us : List Value} (h : ClsN X x c u) (r : ClsNL X es cs us) : ClsNL X (.Name x p :: es) (c :: cs) (u :: us)
theorem ClsNL.pa : ∀ {es : List Expr} {cs : List V} {us : List Value}, ClsNL X es cs us → PA X es (fun _ H Q => Q cs H)
  | _, _, _, .nil => pa_le pa_nil fun σ H Q h => h
  | _, _, _, .cons (p := p) h r => pa_le (pa_cons (h.pe (p := p)) r.pa) fun σ H Q h => h
theorem ClsNL.one : ∀ {es : List Expr} {cs : List V} {us : List Value}, ClsNL X es cs us → ∀ ws, Vals cs ws → ws = us
  | _, _, _, .nil, _, .nil => rfl
  | _, _, _, .cons h r, _, .cons a b => by rw [h.one _ a, r.one _ b]
theorem se_isXT {cs : List V} {us : List Value} (hg : Gl X "isinstance") (hm : X.mg "isinstance" = none) (he : SE X e m) (hc : ClsNL X es cs us) (hl : cs.length ≤ sizeLine) (hs : isStar e = false) (hf : ∀ nm b C, f nm = some b → PySem.W.nsIn X.K mainGlobals nm = some (some (.ref C)) → XA X.K C ∧ PySem.W.kitAny X.K (.ref C) us = some b) :
    SE X (.Call (.Name "isinstance" p) [e, .Tuple es k p1] [] pos) (mIsX f m) := by
  have s1 : starEach [e, .Tuple es k p1] X.env = (false, eval e X.env) :: starEach [.Tuple es k p1] X.env := star_cons hs
  refine pe_le (pe_callB call_isXT hg hm boot_isinstance (pa_cons he (pa_cons (pe_tup hc.pa) pa_nil) s1) (by decide) (by decide) s1) fun σ H Q h => ?_
  obtain ⟨F, fm, v, fm', R, em, q⟩ := h
  unfold mIsX at em
  split at em
  · rename_i w fm1 e1
    split at em
    · rename_i xc hx
      split at em
      · rename_i b hb
        cases em
        refine ⟨F, fm, w, _, R, e1, fun x F1 H1 A1 V1 N1 => ⟨hl, fun t ht => ?_⟩⟩
        have A2 := Aft.lay (o := .tup cs) A1.rel ht
        obtain ⟨a, C, d, rfl, hn, h1, h2⟩ := exc_ok A2.rel (A2.val V1) hx
        obtain ⟨T, hk⟩ := hf _ b C hb hn
        exact ⟨a, C, t, cs, us, b, rfl, upd_same, hc.one, exA_of h1 h2, T, hk, q _ F1 _ (A1.trans A2) (.bl b) VNew.dat⟩
      · cases em
    · cases em
  · cases em
theorem se_fld {g : Str} {t : Str → Option Str} (he : SE X e m) (hb : attributeBase e g X.env (eval e X.env) = eval e X.env) (hf : ∀ nm C, t nm = some g → PySem.W.nsIn X.K mainGlobals nm = some (some (.ref C)) → XA X.K C ∧ PySem.W.findIn X.K (.ref C) g = some none) : SE X (.Attribute e g pos) (mFld t g m) := by
  refine ⟨fun pins s σ H Q I h => ?_⟩
  obtain ⟨F, fm, v, fm', R, em, q⟩ := h
  unfold mFld at em
  split at em
  · rename_i w fm1 e1
    split at em
    · rename_i nm f d hx
      split at em
      · rename_i ht
        cases em
        obtain ⟨ht, rfl⟩ := ht
        refine attr_of hb (thn (he.run pins s σ H _ I ⟨F, fm, w, _, R, e1, fun x F1 H1 A1 V1 N1 => (⟨x, F1, A1, V1, rfl⟩ : ∃ (x' : V) (F1 : Hp), Aft X.K σ F H fm F1 H1 _ ∧ VRel X.K F1 H1 σ _ w x' ∧ x = x')⟩) fun u s1 hh => ?_)
        obtain ⟨x, H1, I1, rx, x', F1, A1, V1, rfl⟩ := hh
        obtain ⟨a, C, dd, rfl, hn, h1, h2⟩ := exc_ok A1.rel V1 hx
        obtain ⟨T, hno⟩ := hf nm C ht hn
        obtain rfl : u = Value.ref a := rx
        rcases h2 with ⟨h2, _⟩ | ⟨f', pd, dx, y, h2, rfl, h3, h4⟩
        · cases h2
        cases h2
        have z : ObjOk X.prog X.w H1 s1.heap a (exk a C (some dx)) := I1.hok a _ h1
        obtain ⟨⟨o, vs, g1, g2, g3, g4⟩, _⟩ := z
        have nc : PySem.W.notCls o = true := by unfold PySem.W.notCls; rw [g4]
        have hx2 : ObjOk X.prog X.w H1 s1.heap dx (.xd [(f, y)]) := I1.hok dx _ h3
        obtain ⟨mA, hns, hr⟩ := hx2
        obtain ⟨od, ho, hl⟩ := lookIn_ns hns
        obtain ⟨u, hu, ru⟩ := RelO.some_of (v := y) (o := mA f) (by have := hr f; simpa [List.lookup] using this)
        have J : PySem.W.InstAt s1.heap a o C (some od) := ⟨g1, g2, nc, by rw [g3]; exact ho⟩
        exact HandSPX.exc_get I1.kIn J T.ga T.gg T.ex (PySem.W.findObj_own T.hd hno rfl (by rw [hl, hu])) (handed_of ru) ⟨y, H1, I1.tok _, ru, q y F1 H1 A1 h4 VNew.dat⟩
      · cases em
    · cases em
  · cases em
end
end Rf

namespace Rf
open PySem PySem.Spec PyProof.Rows L2
section
variable {X : Cx} {c : Cc} {C : Addr} {x : Str} {p pos pos' : Pos} {B newId initId : String} {bmB : List Value}
theorem pmk_bare (F : ExcBaseFacts B newId initId bmB) (q : PySem.W.excIn X.K C bmB newId = true) (gC : X.mg x = some (.ref C)) (kC : PySem.W.keepIn X.K (.ref C) = true) (r : Raises X (.ref C)) (hg : Gl X x)
    (hdb : (x == ("__debug__" : Str)) = false) : PMk X (.Call (.Name x p) [] [] pos) (fun _ H Q => Q (.ref C) none H) := by
  intro pins s σ H Q I h
  refine wpAny_Call_Name_kw (ld_glob I hg gC ?_ hdb)
  refine PySem.W.callWith_K0 I.kIn kC ?_
  show wpAny _ _ (call (.ref C) []) _ _ _
  obtain ⟨bm, N, nm, qn, bs, hdct, sn, sub, ab, col, dd, k0, k1, k2, k3, k5, mN, hC, hN, hni, T⟩ := exc_obj I.kIn q
  refine wpAny_call_exc_subT F T hC hN hni (fun h' e hm => ?_) (by show 0 ≤ sizeLine; omega)
  exact mk_of I hm r h (I.hok.gone hm.new)
theorem ss_raise0 {ro : List Nat} (hc : X.calm = true) (F : ExcBaseFacts B newId initId bmB) (q : PySem.W.excIn X.K C bmB newId = true) (gC : X.mg x = some (.ref C)) (kC : PySem.W.keepIn X.K (.ref C) = true) (r : Raises X (.ref C)) (hg : Gl X x)
    (hn : PySem.W.nsIn X.K mainGlobals x = some (some (.ref C))) (hdb : (x == ("__debug__" : Str)) = false) : SS X ro (.Raise (some (.Call (.Name x p) [] [] pos)) none pos') (mRaise0 x) :=
  fun W tk => ps_le (ps_raise hc tk (pmk_bare F q gC kC r hg hdb)) fun D σ H ⟨F, fm, fl, fm', R, em, q⟩ => by
    cases em
    exact q σ F H (Aft.refl R).s _ _ ⟨C, rfl, hn, .inl ⟨rfl, rfl⟩⟩ fun dx h => nomatch h
theorem findX_mem {xs : List XR} {r : XR} (h : findX x xs = some r) : r ∈ xs ∧ r.nm = x := by
  induction xs with
  | nil => cases h
  | cons a xs ih =>
    unfold findX at h
    split at h
    · rename_i e; cases h; exact ⟨List.mem_cons_self, e⟩
    · exact ⟨List.mem_cons_of_mem _ (ih h).1, (ih h).2⟩
theorem CtxOk.xr (C : CtxOk X c) {nm : Str} {r : XR} (h : findX nm c.xs = some r) : ∃ A, XOk X c.xs r A ∧ X.mg nm = some (.ref A) ∧ PySem.W.nsIn X.K mainGlobals nm = some (some (.ref A)) ∧ r ∈ c.xs ∧ r.nm = nm := by
  obtain ⟨h1, h2⟩ := findX_mem h
  obtain ⟨A, o⟩ := C.xs r h1
  exact ⟨A, o, by rw [← h2]; exact o.mg, by rw [← h2]; exact o.ns, h1, h2⟩
theorem exTys_boot : ∀ t ∈ exTys, bootBuiltins (t : Str) = some (.type t) := by
  unfold exTys
  refine List.forall_mem_cons.mpr ⟨by decide +kernel, ?_⟩
  refine List.forall_mem_cons.mpr ⟨by decide +kernel, ?_⟩
  refine List.forall_mem_cons.mpr ⟨by decide +kernel, ?_⟩
  refine List.forall_mem_cons.mpr ⟨by decide +kernel, ?_⟩
  refine List.forall_mem_cons.mpr ⟨by decide +kernel, ?_⟩
  refine List.forall_mem_cons.mpr ⟨by decide +kernel, ?_⟩
  refine List.forall_mem_cons.mpr ⟨by decide +kernel, ?_⟩
  exact fun t h => nomatch h
theorem exTy_ok {T : Str} {t : String} (h : exTy T = some t) : t ∈ exTys ∧ (t : Str) = T := by
  unfold exTy at h
  refine ⟨List.mem_of_find?_eq_some h, ?_⟩
  have := List.find?_some h
  simpa using this
theorem isB_ok (C : CtxOk X c) {T : Str} (hT : c.exn T = true) : ∃ v u, ClsN X T v u ∧ ∀ nm b A, isB c.xs T nm = some b → PySem.W.nsIn X.K mainGlobals nm = some (some (.ref A)) → XA X.K A ∧ PySem.W.kitOne X.K (.ref A) u = some b := by
  unfold Cc.exn at hT
  simp only [Bool.or_eq_true, Bool.and_eq_true] at hT
  rcases hT with ⟨h1, h2⟩ | ⟨h1, h2⟩
  · obtain ⟨b1, b2, b3, b4⟩ := blt_ok C h1
    obtain ⟨t, ht⟩ := Option.isSome_iff_exists.mp h2
    obtain ⟨m, e⟩ := exTy_ok ht
    refine ⟨.ty t, .type t, .inr ⟨t, ⟨b1, b2, by rw [← e]; exact exTys_boot t m, b4, b3⟩, rfl, rfl⟩, fun nm b A h hn => ?_⟩
    unfold isB at h
    split at h
    · rename_i r hr
      obtain ⟨A', o, _, n', _, _⟩ := C.xr hr
      rw [hn] at n'; cases n'
      split at h
      · rename_i r' hr'
        obtain ⟨_, _, g, _⟩ := C.xr hr'
        rw [b2] at g; cases g
      · rw [ht] at h
        cases h
        rw [← e]
        exact ⟨o.xa, o.bi t m⟩
    · cases h
  · obtain ⟨g1, g2, g3⟩ := glo_ok C h1
    obtain ⟨r', hr'⟩ := Option.isSome_iff_exists.mp h2
    obtain ⟨A', o', m', n', i', e'⟩ := C.xr hr'
    refine ⟨.ref A', .ref A', .inl ⟨A', g1, m', g2, rfl, rfl⟩, fun nm b A h hn => ?_⟩
    unfold isB at h
    split at h
    · rename_i r hr
      obtain ⟨A2, o, _, n2, _, e2⟩ := C.xr hr
      rw [hn] at n2; cases n2
      rw [hr'] at h
      cases h
      refine ⟨o.xa, ?_⟩
      have := (o.ow r' i' A' (by rw [e']; exact n')).1
      rw [e', e2] at this
      exact this
    · cases h
theorem isBs_ok (C : CtxOk X c) : ∀ {es : List Expr} {Ts : List Str}, exNamesC c es = some Ts → ∃ vs us, ClsNL X es vs us ∧ vs.length = es.length ∧ ∀ nm b A, isBs c.xs Ts nm = some b → PySem.W.nsIn X.K mainGlobals nm = some (some (.ref A)) → XA X.K A ∧ PySem.W.kitAny X.K (.ref A) us = some b
  | [], Ts, h => by
    cases h
    refine ⟨[], [], .nil, rfl, fun nm b A h hn => ?_⟩
    unfold isBs at h
    obtain ⟨r, hr, rfl⟩ := Option.map_eq_some_iff.mp h
    obtain ⟨A2, o, _, n2, _, e2⟩ := C.xr hr
    rw [hn] at n2; cases n2
    exact ⟨o.xa, rfl⟩
  | e :: es, Ts, h => by
    unfold exNamesC at h
    split at h
    · rename_i h0; cases h0
    · rename_i x px es' h0
      cases h0
      split at h
      · rename_i hx
        obtain ⟨Ts', h1, rfl⟩ := Option.map_eq_some_iff.mp h
        obtain ⟨vs, us, k1, k2, k3⟩ := isBs_ok C h1
        obtain ⟨v, u, j1, j2⟩ := isB_ok C hx
        refine ⟨v :: vs, u :: us, .cons j1 k1, by rw [List.length_cons, List.length_cons, k2], fun nm b A h hn => ?_⟩
        unfold isBs at h
        split at h
        · rename_i hb
          cases h
          obtain ⟨a1, a2⟩ := j2 nm true A hb hn
          refine ⟨a1, ?_⟩
          unfold PySem.W.kitAny
          rw [a2]
        · rename_i hb
          obtain ⟨a1, a2⟩ := j2 nm false A hb hn
          obtain ⟨_, a3⟩ := k3 nm b A h hn
          refine ⟨a1, ?_⟩
          unfold PySem.W.kitAny
          rw [a2]
          exact a3
        · cases h
      · cases h
    · cases h
theorem own_ok (C : CtxOk X c) : ∀ {es : List Expr} {Ts : List Str}, ownNamesC c es = some Ts → ∃ Cs, ClsNs X es Cs ∧ Cs.length = es.length ∧ (∀ nm ∈ Ts, (findX nm c.xs).isSome = true) ∧ ∀ nm r A, findX nm c.xs = some r → PySem.W.nsIn X.K mainGlobals nm = some (some (.ref A)) → PySem.W.exmAny X.K (.ref A) (Cs.map Value.ref) = some (decide (nm ∈ Ts))
  | [], Ts, h => by
    cases h
    exact ⟨[], .nil, rfl, (fun nm h => absurd h (by simp)), fun nm r A hr hn => rfl⟩
  | e :: es, Ts, h => by
    unfold ownNamesC at h
    split at h
    · rename_i h0; cases h0
    · rename_i x px es' h0
      cases h0
      split at h
      · rename_i hx
        simp only [Bool.and_eq_true] at hx
        obtain ⟨Ts', h1, rfl⟩ := Option.map_eq_some_iff.mp h
        obtain ⟨Cs, k1, k2, k3, k4⟩ := own_ok C h1
        obtain ⟨g1, g2, g3⟩ := glo_ok C hx.1
        obtain ⟨r', hr'⟩ := Option.isSome_iff_exists.mp hx.2
        obtain ⟨A', o', m', n', i', e'⟩ := C.xr hr'
        refine ⟨A' :: Cs, .cons g1 m' g2 k1, by rw [List.length_cons, List.length_cons, k2], fun nm hm => ?_, fun nm r A hr hn => ?_⟩
        · rcases List.mem_cons.mp hm with rfl | hm
          · exact hx.2
          · exact k3 nm hm
        · obtain ⟨A2, o, _, n2, _, e2⟩ := C.xr hr
          rw [hn] at n2; cases n2
          have a1 := (o.ow r' i' A' (by rw [e']; exact n')).2
          rw [e', e2] at a1
          have a2 := k4 nm r A hr hn
          rw [List.map_cons]
          unfold PySem.W.exmAny
          rw [a1, a2]
          by_cases z : x = nm
          · subst z; simp
          · have z' : nm ≠ x := fun w => z w.symm
            simp [z, z']
      · cases h
    · cases h
theorem clause_ok (C : CtxOk X c) {t : Expr} {nms : List Str} (h : clauseNs c t = some nms) : ∃ Cs, ClsE X t Cs ∧ ∀ nm ∈ nms, ∀ A, PySem.W.nsIn X.K mainGlobals nm = some (some (.ref A)) → PySem.W.exmAny X.K (.ref A) (Cs.map Value.ref) = some true := by
  unfold clauseNs at h
  split at h
  · rename_i x px
    split at h
    · rename_i hx
      cases h
      simp only [Bool.and_eq_true] at hx
      obtain ⟨Cs, k1, k2, k3, k4⟩ := own_ok (X := X) C (es := [.Name x px]) (Ts := [x]) (by unfold ownNamesC; rw [if_pos (by simp [hx.1, hx.2])]; rfl)
      obtain ⟨g1, g2, g3⟩ := glo_ok C hx.1
      obtain ⟨r', hr'⟩ := Option.isSome_iff_exists.mp hx.2
      obtain ⟨A', o', m', n', i', e'⟩ := C.xr hr'
      refine ⟨[A'], .one g1 m' g2, fun nm hm A hn => ?_⟩
      have : nm = x := by simpa using hm
      subst this
      cases k1 with
      | cons a1 a2 a3 a4 =>
        cases a4
        rw [m'] at a2; cases a2
        have := k4 nm r' A hr' hn
        simpa using this
    · cases h
  · rename_i es k px
    split at h
    · rename_i hl
      obtain ⟨Cs, k1, k2, k3, k4⟩ := own_ok C h
      refine ⟨Cs, .tup k1 (by rw [k2]; exact hl), fun nm hm A hn => ?_⟩
      obtain ⟨r, hr⟩ := Option.isSome_iff_exists.mp (k3 nm hm)
      have := k4 nm r A hr hn
      simpa [hm] using this
    · cases h
  · cases h
theorem fld_ok (C : CtxOk X c) {nm g : Str} {A : Addr} (h : fldOf c.xs nm = some g) (hn : PySem.W.nsIn X.K mainGlobals nm = some (some (.ref A))) : XA X.K A ∧ PySem.W.findIn X.K (.ref A) g = some none := by
  unfold fldOf at h
  obtain ⟨r, hr, hf⟩ := Option.bind_eq_some_iff.mp h
  obtain ⟨A2, o, _, n2, _, e2⟩ := C.xr hr
  rw [hn] at n2; cases n2
  exact ⟨o.xa, (o.ini g hf).2.1⟩
end
end Rf

namespace Rf
open PySem PySem.Spec PyProof.Rows L2

section
variable {l : Lv} {X : Cx} {c : Cc} {e : Expr} {es : List Expr}
theorem cA_ok (L : LvOk l) (C : CtxOk X c) : ∀ es : List Expr, SA X es (cA l c es)
  | [] => sa_nil
  | e :: es => by
    unfold cA
    split
    · exact sa_no
    · rename_i h
      exact sa_cons (L.E X c C e) (cA_ok L C es) (star_cons (by simpa using h))
theorem cO_ok (L : LvOk l) (C : CtxOk X c) : ∀ o : Option Expr, SO X o (cO l c o)
  | none => so_none
  | some e => so_some (L.E X c C e)
def BltOk (X : Cx) (x : Str) (f : FA) : Prop := (∃ id r, bootBuiltins x = some (.builtin id) ∧ CallR X (.builtin id) r ∧ PrimA X.K r f) ∨ (∃ T r, bootBuiltins x = some (.type T) ∧ CallR X (.type T) r ∧ PrimA X.K r f)
theorem bltTab_ok (C : CtxOk X c) : ∀ t ∈ bltTab, BltOk X t.1 t.2.2 := by
  have hu := C.un
  unfold bltTab
  refine List.forall_mem_cons.mpr ⟨.inl ⟨_, _, PySem.boot_len, call_len_seq, p_len⟩, ?_⟩
  refine List.forall_mem_cons.mpr ⟨.inl ⟨_, _, boot_abs, call_abs, p_abs⟩, ?_⟩
  refine List.forall_mem_cons.mpr ⟨.inr ⟨_, _, PyProof.Rows.boot_int, call_int1, p_int⟩, ?_⟩
  refine List.forall_mem_cons.mpr ⟨.inl ⟨_, _, boot_min, call_minB C.calm (by omega), p_minX⟩, ?_⟩
  refine List.forall_mem_cons.mpr ⟨.inl ⟨_, _, boot_min, call_min2 C.calm, p_min2⟩, ?_⟩
  refine List.forall_mem_cons.mpr ⟨.inl ⟨_, _, boot_max, call_maxX C.calm (by omega), p_best⟩, ?_⟩
  refine List.forall_mem_cons.mpr ⟨.inl ⟨_, _, boot_max, call_max2 C.calm, p_max2⟩, ?_⟩
  refine List.forall_mem_cons.mpr ⟨.inr ⟨_, _, PyProof.Rows.boot_list, call_list_of, p_list⟩, ?_⟩
  refine List.forall_mem_cons.mpr ⟨.inr ⟨_, _, PyProof.Rows.boot_tuple, call_tupleP, p_tuple⟩, ?_⟩
  refine List.forall_mem_cons.mpr ⟨.inr ⟨_, _, PyProof.Rows.boot_str, call_strX, p_str⟩, ?_⟩
  refine List.forall_mem_cons.mpr ⟨.inl ⟨_, _, boot_all, cr_all C.calm, p_all⟩, ?_⟩
  refine List.forall_mem_cons.mpr ⟨.inl ⟨_, _, boot_any, cr_any C.calm, p_any⟩, ?_⟩
  refine List.forall_mem_cons.mpr ⟨.inl ⟨_, _, boot_sum, cr_sum C.calm, p_sum⟩, ?_⟩
  refine List.forall_mem_cons.mpr ⟨.inl ⟨_, _, boot_sorted, cr_sortedX, p_sorted⟩, ?_⟩
  refine List.forall_mem_cons.mpr ⟨.inl ⟨_, _, boot_repr, call_reprX C.gd (by omega), p_repr⟩, ?_⟩
  exact fun t h => nomatch h
theorem bltF_ok (C : CtxOk X c) {x : Str} {n : Nat} {f : FA} (h : bltF x n = some f) : BltOk X x f := by
  unfold bltF at h
  obtain ⟨t, h1, rfl⟩ := Option.map_eq_some_iff.mp h
  have hm := List.mem_of_find?_eq_some h1
  have hp := List.find?_some h1
  simp only [Bool.and_eq_true, decide_eq_true_eq] at hp
  rw [← hp.1]
  exact bltTab_ok C t hm
theorem tyTab_ok : ∀ t ∈ tyTab, bootBuiltins t.1 = some (.type t.2) := by
  unfold tyTab
  refine List.forall_mem_cons.mpr ⟨PyProof.Rows.boot_int, ?_⟩
  refine List.forall_mem_cons.mpr ⟨PyProof.Rows.boot_bool, ?_⟩
  refine List.forall_mem_cons.mpr ⟨PyProof.Rows.boot_str, ?_⟩
  refine List.forall_mem_cons.mpr ⟨PyProof.Rows.boot_list, ?_⟩
  refine List.forall_mem_cons.mpr ⟨PyProof.Rows.boot_tuple, ?_⟩
  exact fun t h => nomatch h
theorem tyOf_ok (C : CtxOk X c) {x : Str} {T : String} (hb : c.blt x = true) (h : tyOf x = some T) : IsTyN X x T := by
  obtain ⟨h1, h2, h3, h4⟩ := blt_ok C hb
  unfold tyOf at h
  obtain ⟨t, e1, rfl⟩ := Option.map_eq_some_iff.mp h
  have hm := List.mem_of_find?_eq_some e1
  have hp := List.find?_some e1
  simp only [decide_eq_true_eq] at hp
  refine ⟨h1, h2, ?_, h4, h3⟩
  rw [← hp]
  exact tyTab_ok t hm
theorem tyNamesC_ok (C : CtxOk X c) : ∀ {es : List Expr} {Ts : List String}, tyNamesC c es = some Ts → TyNs X es Ts ∧ Ts.length = es.length
  | [], _, h => by cases h; exact ⟨.nil, rfl⟩
  | e :: es, Ts, h => by
    unfold tyNamesC at h
    split at h
    · rename_i e; cases e
    · rename_i x p es' e
      cases e
      split at h
      · rename_i hb
        split at h
        · rename_i T Ts' h1 h2
          cases h
          obtain ⟨r, hl⟩ := tyNamesC_ok C h2
          exact ⟨.cons (tyOf_ok C hb h1) r, by simp [hl]⟩
        · cases h
      · cases h
    · cases h
theorem cIsi_ok (L : LvOk l) (C : CtxOk X c) {p pos : Pos} (hb : c.blt "isinstance" = true) (args : List Expr) : SE X (.Call (.Name "isinstance" p) args [] pos) (cIsi l c args) := by
  obtain ⟨h1, h2, _, _⟩ := blt_ok C hb
  unfold cIsi
  split
  · rename_i e x p'
    split
    · exact se_no
    · rename_i hs
      split
      · rename_i T hT
        by_cases hbx : c.blt x = true
        · rw [if_pos hbx] at hT
          exact se_isi1 h1 h2 (L.E X c C e) (tyOf_ok C hbx hT) (by simpa using hs)
        · rw [if_neg hbx] at hT; cases hT
      · split
        · rename_i hx
          obtain ⟨v, u, k1, k2⟩ := isB_ok C hx
          exact se_isX h1 h2 (L.E X c C e) k1 (by simpa using hs) k2
        · exact se_no
  · rename_i e es' k p'
    split
    · exact se_no
    · rename_i hs
      split
      · rename_i hl
        split
        · rename_i Ts hT
          obtain ⟨r, hn⟩ := tyNamesC_ok C hT
          exact se_isiT h1 h2 (L.E X c C e) r (by rw [hn, sizeLine_eq]; omega) (by simpa using hs)
        · split
          · rename_i Ts hT
            obtain ⟨vs, us, k1, k2, k3⟩ := isBs_ok C hT
            exact se_isXT h1 h2 (L.E X c C e) k1 (by rw [k2, sizeLine_eq]; omega) (by simpa using hs) k3
          · exact se_no
      · exact se_no
  · exact se_no
theorem kwNames_ok {pos : Pos} {env : Env} : ∀ {ks : List Keyword} {xs : List Str}, kwNames ks = some xs → (backToKw pos (keywordEach ks env)).all (·.1.isSome) = true ∧ (backToKw pos (keywordEach ks env)).filterMap (·.1) = xs ∧ (backToKw pos (keywordEach ks env)).any (·.1.isNone) = false
  | [], _, h => by cases h; exact ⟨rfl, rfl, rfl⟩
  | k :: ks, xs, h => by
    unfold kwNames at h
    split at h
    · rename_i e; cases e
    · rename_i x v p ks' e
      cases e
      cases h2 : kwNames ks with
      | none => rw [h2] at h; cases h
      | some ys =>
        rw [h2] at h
        cases h
        obtain ⟨a, b, d⟩ := kwNames_ok (pos := pos) (env := env) h2
        refine ⟨?_, ?_, ?_⟩
        · simpa [backToKw, keywordEach] using a
        · simpa [backToKw, keywordEach] using b
        · simpa [backToKw, keywordEach] using d
    · cases h
theorem cK_ok (L : LvOk l) (C : CtxOk X c) : ∀ ks : List Keyword, PK X ks (tA X.K (cK l c ks))
  | [] => ⟨fun pos pins s σ H Q I ⟨F, fm, vs, fm', R, em, q⟩ => pk_nil.run pos pins s σ H Q I (by cases em; exact q [] F H (Aft.refl R) .nil .nil)⟩
  | ⟨nm, e, kp⟩ :: ks => ⟨fun pos pins s σ H Q I h => (pk_cons (L.E X c C e) (cK_ok L C ks)).run pos pins s σ H Q I (by
      obtain ⟨F, fm, vs, fm', R, em, q⟩ := h
      unfold cK mCons at em
      split at em
      · rename_i v fm1 e1
        split at em
        · rename_i ws fm2 e2
          cases em
          refine ⟨F, fm, v, fm1, R, e1, fun x F1 H1 A1 V1 N1 => ⟨F1, fm1, ws, _, A1.rel, e2, fun xs F2 H2 A2 V2 N2 => ?_⟩⟩
          refine q (x :: xs) F2 H2 (A1.trans A2) (.cons (A2.val V1) V2 fun c ec j c' ej z => ?_) (.cons N1 (N2.back A1.ext))
          subst ec
          obtain ⟨p, rfl, hf, hc, hl⟩ := V1
          obtain ⟨o, ho⟩ := hc.some'
          have := N2.get ej z p rfl
          rw [ho] at this; cases this
        · cases em
      · cases em)⟩
def argsM (l : Lv) (c : Cc) (d : DI) (args : List Expr) (kws : List Keyword) : Option MA := match kws with
  | [] => if noStars args then some (dA d args.length (cA l c args)) else none
  | kws => match args, kwNames kws with
    | [], some ks => match d.kw ks with
      | some pm => some (mPermA pm ks.length (cK l c kws))
      | none => none
    | _, _ => none
theorem cDef_eq (d : DI) (args : List Expr) (kws : List Keyword) : cDef l c d args kws = (match argsM l c d args kws with | some m => mCall d.D (mFz m) | none => mNo) ∧ cDefX l c d args kws = (match argsM l c d args kws with | some m => mCallX d.D (mFz m) | none => mNo) := by
  cases kws with
  | nil =>
    unfold cDef cDefX argsM
    by_cases hn : noStars args = true
    · simp [hn]
    · simp [hn]
  | cons k ks =>
    cases args with
    | cons a as => exact ⟨rfl, rfl⟩
    | nil =>
      cases h : kwNames (k :: ks) with
      | none => simp [cDef, cDefX, argsM, h]
      | some ns =>
        cases h2 : d.kw ns with
        | none => simp [cDef, cDefX, argsM, h, h2]
        | some pm => simp [cDef, cDefX, argsM, h, h2]
theorem argsM_ok (L : LvOk l) (C : CtxOk X c) {x : Str} {p pos : Pos} {d : DI} {m : MA} {E : L2.St → XK} (hx : ∀ σ, PassesAt (L2.CX X.prog X.w) X σ (E σ)) (hg : c.glo x = true) (hd : DefOk X x d) (args : List Expr) (kws : List Keyword) (h : argsM l c d args kws = some m) :
    PE X (.Call (.Name x p) args kws pos) (fun σ H Q => tA X.K m σ H fun xs H1 => spM X.K d.D xs H1 Q (E σ)) := by
  obtain ⟨g1, g2, g3⟩ := glo_ok C hg
  obtain ⟨k, f, fd, F, hr, hm, hk, hb, hkw, hdf⟩ := hd.ex
  unfold argsM at h
  split at h
  · split at h
    · rename_i hn
      cases h
      cases args with
      | nil =>
        refine pe_le (pe_callG0 F hr C.gd hx g1 hm hk hb g2) fun σ H Q h => ?_
        rw [show dA d ([] : List Expr).length (cA l c []) = cA l c [] by simp [dA]] at h
        obtain ⟨F, fm, vs, fm', R, em, q⟩ := h
        cases em
        exact q [] F H (Aft.refl R) .nil .nil
      | cons e es =>
        have hn' : isStar e = false ∧ noStars es = true := by
          unfold noStars at hn
          rw [List.all_cons, Bool.and_eq_true] at hn
          exact ⟨by simpa using hn.1, hn.2⟩
        by_cases hc : (d.df && ((e :: es).length != 0 && (e :: es).length + 1 == d.ps.length)) = true
        · have hdt : d.df = true := by
            cases hh : d.df with
            | true => rfl
            | false => rw [hh] at hc; cases hc
          obtain ⟨e0, he0, hb0⟩ := hdf hdt
          refine pe_le (pe_callGD F hr C.gd hx g1 hm hk hb0 (cA_ok L C (e :: es)) g2 hn'.1 hn'.2) fun σ H Q h => ?_
          rw [show dA d (e :: es).length (cA l c (e :: es)) = mDfl (cA l c (e :: es)) by unfold dA; rw [if_pos hc]] at h
          exact tA_dfl he0 h
        · refine pe_le (pe_callG F hr C.gd hx g1 hm hk hb (cA_ok L C (e :: es)) g2 hn'.1 hn'.2) fun σ H Q h => ?_
          rw [show dA d (e :: es).length (cA l c (e :: es)) = cA l c (e :: es) by unfold dA; rw [if_neg hc]] at h
          exact h
    · cases h
  · split at h
    · rename_i ks _ hks
      split at h
      · rename_i pm hpm
        cases h
        obtain ⟨a, b, n⟩ := kwNames_ok (pos := pos) (env := X.env) hks
        refine pe_le (pe_callGK F hr C.gd hx g1 hm hk (hkw _ _ hpm) (cK_ok L C _) g2 a b (by rw [n]; rfl)) fun σ H Q h => ?_
        exact tA_perm h
      · cases h
    · cases h
theorem cDef_ok (L : LvOk l) (C : CtxOk X c) {x : Str} {p pos : Pos} {d : DI} (hg : c.glo x = true) (hd : DefOk X x d) (args : List Expr) (kws : List Keyword) : SE X (.Call (.Name x p) args kws pos) (cDef l c d args kws) := by
  rw [(cDef_eq d args kws).1]
  split
  · rename_i m hm
    exact pe_le (argsM_ok (E := fun _ _ _ _ => False) L C (fun _ => passes_none) hg hd args kws hm) fun σ H Q h => tA_fz (tE_call h)
  · exact se_no
theorem sx_no {e : Expr} : SX X e mNo := sx_of se_no
theorem cDefX_ok (L : LvOk l) (C : CtxOk X c) {x : Str} {p pos : Pos} {d : DI} (hg : c.glo x = true) (hd : DefOk X x d) (args : List Expr) (kws : List Keyword) : SX X (.Call (.Name x p) args kws pos) (cDefX l c d args kws) := by
  rw [(cDef_eq d args kws).2]
  split
  · rename_i m hm
    exact fun W tk => pe_le (argsM_ok (E := WE W) L C (passAt tk) hg hd args kws hm) fun σ H Q h => tA_fz (tX_call h)
  · exact sx_no
theorem cX1_ok (L : LvOk l) (C : CtxOk X c) (e : Expr) : SX X e (cX1 l c e) := by
  unfold cX1
  split
  · rename_i x p args kws pos
    split
    · rename_i d hd
      split
      · unfold defOf at hd
        split at hd
        · rename_i hg
          simp only [Bool.and_eq_true] at hg
          exact cDefX_ok L C hg.1 (C.df x d hd) args kws
        · cases hd
      · exact sx_of (L.E X c C _)
    · exact sx_of (L.E X c C _)
  · exact sx_of (L.E X c C _)
theorem sx_ife {t a b : Expr} {mt : MT} {ma mb : ME} {pos : Pos} (ht : ST X t mt) (ha : SX X a ma) (hb : SX X b mb) : SX X (.IfExp t a b pos) (mIfE mt ma mb) := fun W tk =>
  pe_le (pe_ifExp ht (ha W tk) (hb W tk)) fun σ H Q ⟨F, fm, v, fm', R, em, q, qx⟩ => by
    unfold mIfE at em
    split at em
    · rename_i fm1 e1
      refine ⟨F, fm, _, _, R, e1, fun F1 H1 A1 => ?_⟩
      refine iteT ?_
      exact ⟨F1, fm1, v, fm', A1.rel, em, fun y F2 H2 A2 V2 N2 => q y F2 H2 (A1.trans A2) V2 (A1.new N2), fun xc e cls d F2 H2 A2 xr xn => qx xc e cls d F2 H2 (A1.trans A2) xr (xn.back A1.ext)⟩
    · rename_i fm1 e1
      refine ⟨F, fm, _, _, R, e1, fun F1 H1 A1 => ?_⟩
      refine iteF ?_
      exact ⟨F1, fm1, v, fm', A1.rel, em, fun y F2 H2 A2 V2 N2 => q y F2 H2 (A1.trans A2) V2 (A1.new N2), fun xc e cls d F2 H2 A2 xr xn => qx xc e cls d F2 H2 (A1.trans A2) xr (xn.back A1.ext)⟩
    · cases em
theorem cAX_ok (L : LvOk l) (C : CtxOk X c) : ∀ es : List Expr, SAX X es (cAX l c es)
  | [] => sax_nil
  | e :: es => by
    unfold cAX
    split
    · exact fun W tk => ⟨fun _ _ _ _ _ _ _ ⟨_, _, _, _, _, em, _⟩ => nomatch em⟩
    · rename_i h
      exact sax_cons (cX1_ok L C e) (cAX_ok L C es) (star_cons (by simpa using h))
theorem cX_ok (L : LvOk l) (C : CtxOk X c) (e : Expr) : SX X e (cX l c e) := by
  unfold cX
  split
  · exact sx_ife (L.T X c C _) (cX1_ok L C _) (cX1_ok L C _)
  · split
    · exact sx_lst (cAX_ok L C _)
    · exact cX1_ok L C _
  · exact cX1_ok L C _
theorem cSpec_ok (L : LvOk l) (C : CtxOk X c) {x : Str} {p pos : Pos} {m : ME} {args : List Expr} (hb : c.blt x = true) (h : cSpec l c x args = some m) : SE X (.Call (.Name x p) args [] pos) m := by
  obtain ⟨g1, g2, _, _⟩ := blt_ok C hb
  unfold cSpec at h
  split at h
  · rename_i y p1 es p2
    by_cases hx : x = "sorted" ∧ y = "set" ∧ c.blt y = true
    · rw [if_pos hx] at h
      obtain ⟨rfl, rfl, hy⟩ := hx
      obtain ⟨k1, k2, _, _⟩ := blt_ok C hy
      split at h
      · rename_i e
        split at h
        · cases h
        · rename_i hs
          cases h
          exact se_sortSet C.calm g1 g2 k1 k2 (L.E X c C e) (by simpa using hs)
      · cases h
    rw [if_neg hx] at h
    by_cases hz : x = "tuple" ∧ y = "range" ∧ c.blt y = true
    · rw [if_pos hz] at h
      obtain ⟨rfl, rfl, hy⟩ := hz
      obtain ⟨k1, k2, _, _⟩ := blt_ok C hy
      split at h
      · rename_i a b
        split at h
        · cases h
        · rename_i hs
          cases h
          simp only [Bool.or_eq_true, not_or, Bool.not_eq_true] at hs
          exact se_tupRan C.calm g1 g2 k1 k2 (cA_ok L C [a, b]) hs.1 hs.2
      · cases h
    rw [if_neg hz] at h
    by_cases hw : x = "list" ∧ y = "range" ∧ c.blt y = true
    · rw [if_pos hw] at h
      obtain ⟨rfl, rfl, hy⟩ := hw
      obtain ⟨k1, k2, _, _⟩ := blt_ok C hy
      split at h
      · rename_i a
        split at h
        · cases h
        · rename_i hs
          cases h
          exact se_lstRan C.calm g1 g2 k1 k2 (L.E X c C a) (by simpa using hs)
      · cases h
    rw [if_neg hw] at h
    by_cases hu : x = "len" ∧ y = "set" ∧ c.blt y = true
    · rw [if_pos hu] at h
      obtain ⟨rfl, rfl, hy⟩ := hu
      obtain ⟨k1, k2, _, _⟩ := blt_ok C hy
      split at h
      · rename_i a
        split at h
        · cases h
        · rename_i hs
          cases h
          exact se_lenSet C.calm g1 g2 k1 k2 (L.E X c C a) (by simpa using hs)
      · cases h
    rw [if_neg hu] at h
    cases h
  · cases h
theorem cMinD_ok (L : LvOk l) (C : CtxOk X c) {x : Str} {p pos : Pos} (hb : c.blt x = true) (args : List Expr) (kws : List Keyword) : SE X (.Call (.Name x p) args kws pos) (cMinD l c x args kws) := by
  obtain ⟨g1, g2, _, _⟩ := blt_ok C hb
  have hu := C.un
  unfold cMinD
  split
  · split
    · rename_i hx
      obtain ⟨rfl, rfl⟩ := hx
      split
      · exact se_no
      · rename_i hs
        exact se_minD C.calm (by omega) g1 g2 (L.E X c C _) (by simpa using hs)
    · exact se_no
  · exact se_no
theorem cFun_ok (L : LvOk l) (C : CtxOk X c) {x : Str} {p pos : Pos} (args : List Expr) (kws : List Keyword) : SE X (.Call (.Name x p) args kws pos) (cFun l c x args kws) := by
  unfold cFun
  split
  · rename_i hg
    obtain ⟨g1, g2, g3⟩ := glo_ok C hg
    split
    · rename_i hb
      have hbl : c.blt x = true := by unfold Cc.blt; rw [hg, hb]; rfl
      split
      · split
        · rename_i e
          subst e
          exact cIsi_ok L C hbl args
        · split
          · rename_i m hm
            exact cSpec_ok L C hbl hm
          split
          · rename_i hn
            cases args with
            | nil => simp at hn
            | cons e es =>
              have hn' : isStar e = false ∧ noStars es = true := by
                simp only [Bool.and_eq_true] at hn
                have := hn.1
                unfold noStars at this
                rw [List.all_cons, Bool.and_eq_true] at this
                exact ⟨by simpa using this.1, this.2⟩
              split
              · rename_i f hf
                rcases bltF_ok C hf with ⟨id, r, h1, h2, h3⟩ | ⟨T, r, h1, h2, h3⟩
                · exact se_callB h2 h3 g1 (C.bl x hb) h1 (cA_ok L C (e :: es)) g3 g2 (star_cons hn'.1) (back_plain hn'.2)
                · exact se_callTy h2 h3 g1 (C.bl x hb) h1 (cA_ok L C (e :: es)) g3 g2 (star_cons hn'.1) (back_plain hn'.2)
              · exact se_no
          · exact se_no
      · exact cMinD_ok L C hbl _ _
    · split
      · rename_i d hd
        exact cDef_ok L C hg (C.df x d hd) args kws
      · exact se_no
  · exact se_no
end
end Rf

namespace Rf
open PySem PySem.Spec PyProof.Rows L2

section
variable {l : Lv} {X : Cx} {c : Cc} {e o : Expr} {es : List Expr} {apos cpos pos : Pos} {m : Str}
theorem pe_or {t t' : TE} (h : PE X e t) (h' : PE X e t') : PE X e (fun σ H Q => t σ H Q ∨ t' σ H Q) := ⟨fun pins s σ H Q I q => q.elim (h.run pins s σ H Q I) (h'.run pins s σ H Q I)⟩
theorem few_of (hn : noStars (e :: es) = true) (hl : (e :: es).length ≤ 20) (cpos : Pos) (env : Env) :
    ((backTo cpos (starEach (e :: es) env)).all (fun x => !x.1) && (backToKw cpos (keywordEach [] env)).all (fun x => x.1.isSome) && decide ((e :: es).length + ([] : List Keyword).length + (if ([] : List Keyword).isEmpty then 0 else 1) < 30)) = true := by
  rw [back_all hn]
  have : decide ((e :: es).length + ([] : List Keyword).length + (if ([] : List Keyword).isEmpty then 0 else 1) < 30) = true := decide_eq_true (by simp at hl ⊢; omega)
  rw [this]
  rfl
theorem stars_cons (hn : noStars (e :: es) = true) : isStar e = false ∧ noStars es = true := by
  unfold noStars at hn
  rw [List.all_cons, Bool.and_eq_true] at hn
  exact ⟨by simpa using hn.1, hn.2⟩
theorem cMet_ok (L : LvOk l) (C : CtxOk X c) (hline : (apos.endLine == cpos.line) = true) (args : List Expr) : SE X (.Call (.Attribute o m apos) args [] cpos) (cMet l c o m args) := by
  unfold cMet
  by_cases h0 : (isCall0 o || !noStars args || decide (20 < args.length)) = true
  · rw [if_pos h0]; exact se_no
  rw [if_neg h0]
  have hc : isCall0 o = false ∧ noStars args = true ∧ args.length ≤ 20 := by
    simp only [Bool.or_eq_true, not_or, Bool.not_eq_true, Bool.not_eq_false', decide_eq_true_eq] at h0
    exact ⟨h0.1.1, h0.1.2, by omega⟩
  cases args with
  | nil =>
    have z : ∀ {α : Type} (a b : α) (p : Prop) [Decidable p], a = b → (if p then a else b) = b := fun a b p _ e => by split <;> simp [e]
    refine se_no' fun fm => ?_
    by_cases h1 : m = "append"
    · rw [if_pos h1]; rfl
    rw [if_neg h1]
    by_cases h2 : m = "extend"
    · rw [if_pos h2]; rfl
    rw [if_neg h2]
    by_cases h3 : m = "pop"
    · rw [if_pos h3]; rfl
    rw [if_neg h3]
    by_cases h5 : m = "insert"
    · rw [if_pos h5]; rfl
    rw [if_neg h5]
    by_cases h4 : m = "index"
    · rw [if_pos h4]; rfl
    rw [if_neg h4]
    by_cases h6 : m = "count"
    · rw [if_pos h6]; rfl
    rw [if_neg h6]; rfl
  | cons e es =>
    obtain ⟨s1, s2⟩ := stars_cons hc.2.1
    have few := few_of hc.2.1 hc.2.2 cpos X.env
    have gen : ∀ {T id : String} {r : V → List V → Hp → VK → Prop}, PlainAttrs T → Slot T m id → typeOf (.builtin id) = pure (.type "method_descriptor") → MtR X id r → PE X (.Call (.Attribute o m apos) (e :: es) [] cpos) (tMtP X.K T r (tE X.K (l.E c o)) (tA X.K (cA l c (e :: es)))) :=
      fun pa sl ty mt => pe_mtP pa sl ty mt (L.E X c C o) (cA_ok L C (e :: es)) (base_of hc.1) few hline (star_cons s1) (back_plain s2)
    by_cases h1 : m = "append"
    · subst h1
      rw [if_pos rfl]
      split
      · exact pe_le (gen PySem.F.plainAttrs_list PySem.F.slot_list_append PySem.F.type_list_append mt_append) fun σ H Q h => tE_mtZ p_append h
      · exact se_no
    rw [if_neg h1]
    by_cases h2 : m = "extend"
    · subst h2
      rw [if_pos rfl]
      split
      · exact pe_le (gen PySem.F.plainAttrs_list PySem.F.slot_list_extend PySem.F.type_list_extend mt_extend) fun σ H Q h => tE_mt p_extend h
      · exact se_no
    rw [if_neg h2]
    by_cases h3 : m = "pop"
    · subst h3
      rw [if_pos rfl]
      split
      · exact pe_le (gen PySem.F.plainAttrs_list PySem.F.slot_list_pop PySem.F.type_list_pop mt_popAt) fun σ H Q h => tE_mt p_popAt h
      · exact se_no
    rw [if_neg h3]
    by_cases h5 : m = "insert"
    · subst h5
      rw [if_pos rfl]
      split
      · exact pe_le (gen PySem.F.plainAttrs_list PySem.F.slot_list_insert PySem.F.type_list_insert mt_insert) fun σ H Q h => tE_mtZ p_insert h
      · exact se_no
    rw [if_neg h5]
    by_cases h4 : m = "index"
    · subst h4
      rw [if_pos rfl]
      split
      · refine pe_le (pe_or (gen PySem.F.plainAttrs_tuple PySem.F.slot_tuple_index PySem.F.type_tuple_index mt_idxT) (pe_or (gen PySem.F.plainAttrs_list PySem.F.slot_list_index PySem.F.type_list_index mt_idxL) (gen PySem.F.plainAttrs_list PySem.F.slot_list_index PySem.F.type_list_index (mt_findL (by have := C.un; omega))))) fun σ H Q h => ?_
        obtain ⟨F, fm, v, fm', R, em, q⟩ := h
        simp only at em
        split at em
        · rename_i r er
          cases em
          exact .inl (tE_mt p_idx ⟨F, fm, v, fm', R, er, q⟩)
        · split at em
          · rename_i r er
            cases em
            exact .inr (.inl (tE_mt p_idx ⟨F, fm, v, fm', R, er, q⟩))
          · exact .inr (.inr (tE_mt p_findL ⟨F, fm, v, fm', R, em, q⟩))
      · exact se_no
    rw [if_neg h4]
    by_cases h6 : m = "count"
    · subst h6
      rw [if_pos rfl]
      split
      · refine pe_le (pe_or (gen PySem.F.plainAttrs_tuple PySem.F.slot_tuple_count PySem.F.type_tuple_count (mt_cntT (by have := C.un; omega))) (gen PySem.F.plainAttrs_list PySem.F.slot_list_count PySem.F.type_list_count (mt_cntL (by have := C.un; omega)))) fun σ H Q h => ?_
        obtain ⟨F, fm, v, fm', R, em, q⟩ := h
        simp only at em
        split at em
        · rename_i r er
          cases em
          exact .inl (tE_mt p_cnt ⟨F, fm, v, fm', R, er, q⟩)
        · exact .inr (tE_mt p_cnt ⟨F, fm, v, fm', R, em, q⟩)
      · exact se_no
    rw [if_neg h6]
    exact se_no
theorem cG1_ok (L : LvOk l) (C : CtxOk X c) {tg : Expr} {g : MG} (h : cG1 l c tg = some g) : SG X (Dq X.K) c.ro tg g := by
  unfold cG1 at h
  split at h
  · rename_i x p
    obtain ⟨i, hi, rfl⟩ := Option.map_eq_some_iff.mp h
    obtain ⟨h1, h2, h3, h4⟩ := sto_ok' C hi
    exact sg_name (by rw [C.N]; exact C.nd) h3 h1 h2 h4
  · rename_i x p lo hi p2 p3
    obtain ⟨i, hi, rfl⟩ := Option.map_eq_some_iff.mp h
    obtain ⟨h1, h2, h3, h4⟩ := slot_ok C hi
    exact sg_splice h1 h2 h3 h4 (cO_ok L C _) (cO_ok L C _)
  · rename_i x p e p2 _
    split at h
    · cases h
    · rename_i hs
      obtain ⟨i, hi, rfl⟩ := Option.map_eq_some_iff.mp h
      obtain ⟨h1, h2, h3, h4⟩ := slot_ok C hi
      exact sg_ix h1 h2 h3 h4 (L.E X c C e) (by simpa using hs)
  · cases h
theorem cGs1_ok (L : LvOk l) (C : CtxOk X c) : ∀ {tgs : List Expr} {r : MGs}, cGs1 l c tgs = some r → SGs X c.ro tgs r ∧ (assignEach tgs X.env).length = tgs.length ∧ (assignEach tgs X.env).findIdx? (·.1) = none
  | [], _, h => by cases h; exact ⟨sgs_nil, rfl, rfl⟩
  | e :: es, r, h => by
    unfold cGs1 at h
    split at h
    · cases h
    · rename_i hs
      split at h
      · rename_i g r' h1 h2
        cases h
        obtain ⟨a, b, d⟩ := cGs1_ok L C h2
        have hs' : isStar e = false := by simpa using hs
        have ea : assignEach (e :: es) X.env = (false, assign e X.env) :: assignEach es X.env := by
          cases e <;> first | rfl | cases hs'
        refine ⟨sgs_cons (cG1_ok L C h1) a (by rw [ea]; rfl), by rw [ea, List.length_cons, List.length_cons, b], ?_⟩
        rw [ea, List.findIdx?_cons]
        simp [d]
      · cases h
theorem cG2_ok (L : LvOk l) (C : CtxOk X c) {tg : Expr} {g : MG} (h : cG2 l c tg = some g) : SG X (Dq X.K) c.ro tg g := by
  by_cases ht : ∃ ts k p, tg = .Tuple ts k p
  · obtain ⟨ts, k, p, rfl⟩ := ht
    unfold cG2 at h
    obtain ⟨r, hr, rfl⟩ := Option.map_eq_some_iff.mp h
    obtain ⟨a, b, d⟩ := cGs1_ok L C hr
    exact sg_weak (sg_tup C.calm a b d)
  · have : cG1 l c tg = some g := by
      cases tg <;> first | exact h | exact absurd ⟨_, _, _, rfl⟩ ht
    exact cG1_ok L C this
theorem cGs_ok (L : LvOk l) (C : CtxOk X c) : ∀ {tgs : List Expr} {r : MGs}, cGs l c tgs = some r → SGs X c.ro tgs r ∧ (assignEach tgs X.env).length = tgs.length ∧ (assignEach tgs X.env).findIdx? (·.1) = none
  | [], _, h => by cases h; exact ⟨sgs_nil, rfl, rfl⟩
  | e :: es, r, h => by
    unfold cGs at h
    split at h
    · cases h
    · rename_i hs
      split at h
      · rename_i g r' h1 h2
        cases h
        obtain ⟨a, b, d⟩ := cGs_ok L C h2
        have hs' : isStar e = false := by simpa using hs
        have ea : assignEach (e :: es) X.env = (false, assign e X.env) :: assignEach es X.env := by
          cases e <;> first | rfl | cases hs'
        refine ⟨sgs_cons (cG2_ok L C h1) a (by rw [ea]; rfl), by rw [ea, List.length_cons, List.length_cons, b], ?_⟩
        rw [ea, List.findIdx?_cons]
        simp [d]
      · cases h
theorem cG_tup (L : LvOk l) (C : CtxOk X c) {ts : List Expr} {k : Nat} {p : Pos} {g : MG} (h : cG l c (.Tuple ts k p) = some g) : SG X (Dw X.K) c.ro (.Tuple ts k p) g := by
  unfold cG at h
  obtain ⟨r, hr, rfl⟩ := Option.map_eq_some_iff.mp h
  obtain ⟨a, b, d⟩ := cGs_ok L C hr
  exact sg_tup C.calm a b d
theorem cG_ok (L : LvOk l) (C : CtxOk X c) {tg : Expr} {g : MG} (h : cG l c tg = some g) : SG X (Dq X.K) c.ro tg g := by
  by_cases ht : ∃ ts k p, tg = .Tuple ts k p
  · obtain ⟨ts, k, p, rfl⟩ := ht
    exact sg_weak (cG_tup L C h)
  · have : cG1 l c tg = some g := by
      cases tg <;> first | exact h | exact absurd ⟨_, _, _, rfl⟩ ht
    exact cG1_ok L C this
theorem cIw_ok (L : LvOk l) (C : CtxOk X c) {iter : Expr} {mi : MI} {ts : List Expr} {k : Nat} {p : Pos} (h : cIw l c iter = some mi) : SI X (Dw X.K) (.Tuple ts k p) iter mi := by
  unfold cIw at h
  split at h
  · rename_i x p1 args p2
    by_cases hx : x = "enumerate" ∧ c.blt x = true
    · rw [if_pos hx] at h
      obtain ⟨rfl, hb⟩ := hx
      obtain ⟨g1, g2, _, _⟩ := blt_ok C hb
      split at h
      · rename_i a
        split at h
        · cases h
        · rename_i hs
          cases h
          have hs' : isStar a = false := by simpa using hs
          exact si_enm g1 g2 (cA_ok L C [a]) (star_cons hs')
      · cases h
    rw [if_neg hx] at h
    by_cases hy : x = "zip" ∧ c.blt x = true
    · rw [if_pos hy] at h
      obtain ⟨rfl, hb⟩ := hy
      obtain ⟨g1, g2, _, _⟩ := blt_ok C hb
      split at h
      · rename_i a b
        split at h
        · cases h
        · rename_i hs
          cases h
          simp only [Bool.or_eq_true, not_or, Bool.not_eq_true] at hs
          exact si_zipM g1 g2 (cA_ok L C [a, b]) (star_cons hs.1) (back_plain (by simp [noStars, hs.2]))
      · rename_i a b d
        split at h
        · cases h
        · rename_i hs
          cases h
          simp only [Bool.or_eq_true, not_or, Bool.not_eq_true] at hs
          exact si_zip3 g1 g2 (cA_ok L C [a, b, d]) (star_cons hs.1) (back_plain (by simp [noStars, hs.2.1, hs.2.2]))
      · cases h
    rw [if_neg hy] at h
    cases h
  · cases h
theorem cIn_ok (L : LvOk l) (C : CtxOk X c) {tg iter : Expr} {mi : MI} (h : cIn l c tg iter = some mi) : SI X (Dq X.K) tg iter mi := by
  unfold cIn at h
  split at h
  · split at h
    · rename_i hy
      cases h
      obtain ⟨rfl, hb⟩ := hy
      obtain ⟨g1, g2, _, _⟩ := blt_ok C hb
      exact si_zipS g1 g2 (L.E _ _ C _)
    · cases h
  · split at h
    · rename_i hy
      obtain ⟨rfl, hb⟩ := hy
      obtain ⟨g1, g2, _, _⟩ := blt_ok C hb
      split at h
      · cases h
      · rename_i hs
        cases h
        simp only [Bool.or_eq_true, not_or, Bool.not_eq_true] at hs
        exact si_zipN2 g1 g2 (cA_ok L C _) (star_cons hs.1) (back_plain (by simp [noStars, hs.2]))
    · cases h
  · cases h
theorem cI_ok (L : LvOk l) (C : CtxOk X c) {tg : Expr} (iter : Expr) : SI X (Dq X.K) tg iter (cI l c iter) := by
  unfold cI
  split
  · rename_i x p1 args p2
    by_cases hx : x = "range" ∧ c.blt x = true
    · rw [if_pos hx]
      obtain ⟨rfl, hb⟩ := hx
      obtain ⟨g1, g2, _, _⟩ := blt_ok C hb
      split
      · rename_i a
        split
        · exact si_no
        · rename_i hs
          have hs' : isStar a = false := by simpa using hs
          exact si_ran g1 g2 (cA_ok L C [a]) (star_cons hs')
      · rename_i a b
        split
        · exact si_no
        · rename_i hs
          simp only [Bool.or_eq_true, not_or, Bool.not_eq_true] at hs
          have e2 : starEach [b] X.env = [(false, eval b X.env)] := star_cons hs.2
          exact si_ran2 g1 g2 (cA_ok L C [a, b]) (by rw [star_cons hs.1, e2]) e2
      · exact si_no
    rw [if_neg hx]
    exact si_seq (L.E X c C _)
  · exact si_seq (L.E X c C _)
end
end Rf

namespace Rf
open PySem PySem.Spec PyProof.Rows L2

section
variable {l : Lv} {X : Cx} {c : Cc} {e o : Expr} {es : List Expr} {pos : Pos}
theorem gok_set {i : Nat} : GOk (gSet i) := fun d fm fm' h => by
  cases h
  exact ⟨List.length_set, keeps_set⟩
def GsOk (r : MGs) : Prop := ∀ ds fm fm', r ds fm = some fm' → fm'.length = fm.length ∧ Keeps fm fm'
theorem gsok_nil : GsOk gsNil := fun ds fm fm' h => by
  unfold gsNil at h
  split at h
  · cases h; exact ⟨rfl, Keeps.refl _⟩
  · cases h
theorem gsok_cons {g : MG} {r : MGs} (hg : GOk g) (hr : GsOk r) : GsOk (gsCons g r) := fun ds fm fm' h => by
  unfold gsCons at h
  split at h
  · split at h
    · rename_i fm1 e1
      obtain ⟨a, b⟩ := hg _ _ _ e1
      obtain ⟨c, d⟩ := hr _ _ _ h
      exact ⟨c.trans a, b.trans d⟩
    · cases h
  · cases h
theorem gok_tup {n : Nat} {r : MGs} (hr : GsOk r) : GOk (gTupD n r) := fun d fm fm' h => by
  unfold gTupD at h
  split at h
  · split at h
    · exact hr _ _ _ h
    · cases h
  · split at h
    · exact hr _ _ _ h
    · cases h
  · cases h
theorem cG1_gok {tg : Expr} {g : MG} (hn : nm1 tg = true) (h : cG1 l c tg = some g) : GOk g := by
  cases tg <;> first | (cases hn; done) | skip
  unfold cG1 at h
  obtain ⟨i, hi, rfl⟩ := Option.map_eq_some_iff.mp h
  exact gok_set
theorem cGs1_gok : ∀ {tgs : List Expr} {r : MGs}, tgs.all nm1 = true → cGs1 l c tgs = some r → GsOk r
  | [], _, _, h => by cases h; exact gsok_nil
  | e :: es, r, hn, h => by
    rw [List.all_cons, Bool.and_eq_true] at hn
    unfold cGs1 at h
    split at h
    · cases h
    · split at h
      · rename_i g r' h1 h2
        cases h
        exact gsok_cons (cG1_gok hn.1 h1) (cGs1_gok hn.2 h2)
      · cases h
theorem cG2_gok {tg : Expr} {g : MG} (hn : nm2 tg = true) (h : cG2 l c tg = some g) : GOk g := by
  cases tg <;> first | (cases hn; done) | skip
  · rename_i x p
    have h' : cG1 l c (.Name x p) = some g := h
    exact cG1_gok rfl h'
  · unfold cG2 at h
    obtain ⟨r, hr, rfl⟩ := Option.map_eq_some_iff.mp h
    exact gok_tup (cGs1_gok hn hr)
theorem cGs_gok : ∀ {tgs : List Expr} {r : MGs}, tgs.all nm2 = true → cGs l c tgs = some r → GsOk r
  | [], _, _, h => by cases h; exact gsok_nil
  | e :: es, r, hn, h => by
    rw [List.all_cons, Bool.and_eq_true] at hn
    unfold cGs at h
    split at h
    · cases h
    · split at h
      · rename_i g r' h1 h2
        cases h
        exact gsok_cons (cG2_gok hn.1 h1) (cGs_gok hn.2 h2)
      · cases h
theorem cG_gok {tg : Expr} {g : MG} (hn : namesOnly tg = true) (h : cG l c tg = some g) : GOk g := by
  cases tg <;> first | (cases hn; done) | skip
  · rename_i x p
    have h' : cG1 l c (.Name x p) = some g := h
    exact cG1_gok rfl h'
  · unfold cG at h
    obtain ⟨r, hr, rfl⟩ := Option.map_eq_some_iff.mp h
    exact gok_tup (cGs_gok hn hr)
theorem comp_ok (C : CtxOk X c) {scope : Scope} (hb : BlkOk X.N X.env.scope scope (ownOf c.N scope)) (s : Shared) (H : Hp) (A : Addr) (cl : List (Str × Addr)) (fp : List Addr) : CtxOk (X.blk s H scope (compEnvC scope cl A X.env) fp) (c.comp scope) := by
  refine ⟨C.N, ?_, hb.kind, C.nd, C.calm, fun x h => h, C.gd, C.un, C.bl, fun x d h => ⟨(C.df x d h).ex⟩, fun r h => ?_, C.gk⟩
  rotate_left
  · obtain ⟨A, o⟩ := C.xs r h
    exact ⟨A, ⟨o.mg, o.ns, o.xa, o.ini, o.bare, o.bi, o.ow⟩⟩
  show relabel scope X.env = relS scope c.sc
  rw [relabel_eq, ← C.sc]
  rfl
theorem cT1_ok (L : LvOk l) (C : CtxOk X c) (ifs : List Expr) : PTs X ifs (tT X.K (cT1 l c ifs)) := by
  unfold cT1
  split
  · exact ⟨fun pins s σ H Q I ⟨F, fm, b, fm', R, em, q⟩ => pts_nil.run pins s σ H Q I (by cases em; exact q F H (Aft.refl R))⟩
  · exact pts_one (L.T X c C _)
  · exact ⟨fun _ _ _ _ _ _ ⟨_, _, _, _, _, em, _⟩ => nomatch em⟩
theorem ro_comp {scope : Scope} : ∀ i, i < c.N.length → i ∈ (c.comp scope).ro ∨ i ∈ (ownOf c.N scope).map (·.2) := fun i hi => by
  by_cases h : i ∈ (ownOf c.N scope).map (·.2)
  · exact .inr h
  · refine .inl (List.mem_filter.mpr ⟨List.mem_range.mpr hi, ?_⟩)
    simpa [List.contains_iff_mem] using h
structure LcParts (X : Cx) (c : Cc) (elt tg iter : Expr) (ifs : List Expr) (scope : Scope) (Rl : RLT) (mi : MI) (g : MG) (mt : MT) (me : ME) : Prop where
  it : SI X Rl tg iter mi
  blk : BlkOk X.N X.env.scope scope (ownOf c.N scope)
  tgt : ∀ (s : Shared) (H : Hp) (A : Addr) (cl : List (Str × Addr)) (fp : List Addr), SG (X.blk s H scope (compEnvC scope cl A X.env) fp) Rl (c.comp scope).ro tg g
  tst : ∀ (s : Shared) (H : Hp) (A : Addr) (cl : List (Str × Addr)) (fp : List Addr), PTs (X.blk s H scope (compEnvC scope cl A X.env) fp) ifs (tT X.K mt)
  elm : ∀ (s : Shared) (H : Hp) (A : Addr) (cl : List (Str × Addr)) (fp : List Addr), SE (X.blk s H scope (compEnvC scope cl A X.env) fp) elt me
  gok : GOk g
  fld : isSetD iter = false
theorem LcParts.se (C : CtxOk X c) {elt tg iter : Expr} {ifs : List Expr} {scope : Scope} {Rl : RLT} {mi : MI} {g : MG} {mt : MT} {me : ME} (P : LcParts X c elt tg iter ifs scope Rl mi g mt me) :
    SE X (.ListComp elt [⟨tg, iter, ifs, 0⟩] scope pos) (mLc c.N.length mi g mt me ((ownOf c.N scope).map (·.2))) :=
  pe_le (pe_lc (g := tG X.K Rl (c.comp scope).ro g) (tt := tT X.K mt) (te := tE X.K me) C.calm (by rw [C.N]; exact C.nd) P.it P.blk P.tgt P.tst P.elm (folded_of P.fld)) fun σ H Q h => tE_lc P.gok ro_comp h
theorem LcParts.ss (C : CtxOk X c) {elt tg iter : Expr} {ifs : List Expr} {scope : Scope} {Rl : RLT} {mi : MI} {g : MG} {mt : MT} {me : ME} {i : Nat} {y : Str} {py spos : Pos} (P : LcParts X c elt tg iter ifs scope Rl mi g mt me)
    (hi : X.N[i]? = some y) (hl : X.env.scope.names.lookup y = some .local) (hro : i ∉ c.ro) (hsw : swapsWith (.ListComp elt [⟨tg, iter, ifs, 0⟩] scope pos) (some (.Name y py)) spos.line X.env = pure true) :
    SS X c.ro (.Assign [.Name y py] (.ListComp elt [⟨tg, iter, ifs, 0⟩] scope pos) spos) (mSet i (mLc c.N.length mi g mt me ((ownOf c.N scope).map (·.2)))) :=
  fun W tk => ps_le (ps_setLc (g := tG X.K Rl (c.comp scope).ro g) (tt := tT X.K mt) (te := tE X.K me) C.calm (by rw [C.N]; exact C.nd) hi hl hsw P.it P.blk P.tgt P.tst P.elm (folded_of P.fld)) fun D σ H h => by
    obtain ⟨F, fm, v, fm', R, em, q, qx⟩ := tS_set hro h
    exact tE_lc P.gok ro_comp ⟨F, fm, v, fm', R, em, q⟩
theorem cL_parts (L : LvOk l) (C : CtxOk X c) {elt : Expr} {scope : Scope} {gs : List Comprehension} (hgs : ∀ a b, gs ≠ [a, b]) :
    (∀ fm, cL l c elt scope gs fm = none) ∨ ∃ tg iter ifs Rl mi g, gs = [⟨tg, iter, ifs, 0⟩] ∧ cL l c elt scope gs = mLc c.N.length mi g (cT1 l (c.comp scope) ifs) (l.E (c.comp scope) elt) ((ownOf c.N scope).map (·.2)) ∧
      LcParts X c elt tg iter ifs scope Rl mi g (cT1 l (c.comp scope) ifs) (l.E (c.comp scope) elt) := by
  rcases gs with _ | ⟨⟨tg, iter, ifs, is⟩, _ | ⟨⟨t2, i2, f2, s2⟩, _ | ⟨g3, gs⟩⟩⟩
  · exact .inl fun _ => rfl
  · by_cases hc : is = 0 ∧ blkC c.N c.sc scope (ownOf c.N scope) = true ∧ isSetD iter = false ∧ namesOnly tg = true
    · have e0 : cL l c elt scope [⟨tg, iter, ifs, is⟩] = (match cG l (c.comp scope) tg with
        | some g => match cIn l c tg iter with
          | some mi => mLc c.N.length mi g (cT1 l (c.comp scope) ifs) (l.E (c.comp scope) elt) ((ownOf c.N scope).map (·.2))
          | none => match cIw l c iter with
            | some mi => if isTup tg then mLc c.N.length mi g (cT1 l (c.comp scope) ifs) (l.E (c.comp scope) elt) ((ownOf c.N scope).map (·.2)) else mNo
            | none => mLc c.N.length (cI l c iter) g (cT1 l (c.comp scope) ifs) (l.E (c.comp scope) elt) ((ownOf c.N scope).map (·.2))
        | none => mNo) := by show (if _ then _ else _) = _; rw [if_pos hc] <;> rfl
      obtain ⟨rfl, h1, h2, h3⟩ := hc
      have hb : BlkOk X.N X.env.scope scope (ownOf c.N scope) := by rw [C.N, C.sc]; exact blkOk_by h1
      cases hg : cG l (c.comp scope) tg with
      | none => exact .inl fun fm => by rw [e0, hg]; rfl
      | some g =>
        cases hin : cIn l c tg iter with
        | some mi => exact .inr ⟨_, _, _, _, mi, g, rfl, by rw [e0, hg, hin] <;> rfl, cIn_ok L C hin, hb, fun s H A cl fp => cG_ok L (comp_ok C hb s H A cl fp) hg, fun s H A cl fp => cT1_ok L (comp_ok C hb s H A cl fp) ifs, fun s H A cl fp => L.E _ _ (comp_ok C hb s H A cl fp) elt, cG_gok h3 hg, h2⟩
        | none =>
          cases hi : cIw l c iter with
          | none => exact .inr ⟨_, _, _, _, _, g, rfl, by rw [e0, hg, hin, hi], cI_ok L C iter, hb, fun s H A cl fp => cG_ok L (comp_ok C hb s H A cl fp) hg, fun s H A cl fp => cT1_ok L (comp_ok C hb s H A cl fp) ifs, fun s H A cl fp => L.E _ _ (comp_ok C hb s H A cl fp) elt, cG_gok h3 hg, h2⟩
          | some mi =>
            by_cases ht : ∃ ts k p, tg = .Tuple ts k p
            · obtain ⟨ts, k, p, rfl⟩ := ht
              exact .inr ⟨_, _, _, _, mi, g, rfl, by rw [e0, hg, hin, hi]; rfl, cIw_ok L C hi, hb, fun s H A cl fp => cG_tup L (comp_ok C hb s H A cl fp) hg, fun s H A cl fp => cT1_ok L (comp_ok C hb s H A cl fp) ifs, fun s H A cl fp => L.E _ _ (comp_ok C hb s H A cl fp) elt, cG_gok h3 hg, h2⟩
            · refine .inl fun fm => ?_
              have hn : isTup tg = false := by cases tg <;> first | rfl | exact absurd ⟨_, _, _, rfl⟩ ht
              rw [e0, hg, hin, hi, hn]
              rfl
    · exact .inl fun fm => by
        have e0 : cL l c elt scope [⟨tg, iter, ifs, is⟩] = mNo := by show (if _ then _ else _) = _; rw [if_neg hc]
        rw [e0]; rfl
  · exact absurd rfl (hgs _ _)
  · exact .inl fun _ => rfl
theorem itOf_ok (L : LvOk l) (C : CtxOk X c) {tg iter : Expr} {mi : MI} (h : itOf l c tg iter = some mi) : ∃ Rl, SI X Rl tg iter mi ∧ ∀ (Y : Cx) (d : Cc) (g : MG), CtxOk Y d → Y.K = X.K → cG l d tg = some g → SG Y Rl d.ro tg g := by
  unfold itOf at h
  split at h
  · rename_i mi' hi
    split at h
    · rename_i ht
      cases h
      have : ∃ ts k p, tg = .Tuple ts k p := by
        cases tg <;> first | (cases ht; done) | exact ⟨_, _, _, rfl⟩
      obtain ⟨ts, k, p, rfl⟩ := this
      exact ⟨_, cIw_ok L C hi, fun Y d g D hK hg => by rw [← hK]; exact cG_tup L D hg⟩
    · cases h
  · cases h
    exact ⟨_, cI_ok L C iter, fun Y d g D hK hg => by rw [← hK]; exact cG_ok L D hg⟩
theorem compR_ok (C : CtxOk X c) {scope : Scope} {ws : List Nat} (hb : BlkOk X.N X.env.scope scope (ownOf c.N scope)) (s : Shared) (H : Hp) (A : Addr) (cl : List (Str × Addr)) (fp : List Addr) : CtxOk (X.blk s H scope (compEnvC scope cl A X.env) fp) (c.compR scope ws) := by
  have D := comp_ok C hb s H A cl fp
  exact ⟨D.N, D.sc, D.kind, D.nd, D.calm, D.fn, D.gd, D.un, D.bl, D.df, D.xs, D.gk⟩
theorem ro_compR {scope : Scope} {ws : List Nat} : ∀ i, i < c.N.length → i ∈ (c.compR scope ws).ro ∨ i ∈ ws := fun i hi => by
  by_cases h : i ∈ ws
  · exact .inr h
  · refine .inl (List.mem_filter.mpr ⟨List.mem_range.mpr hi, ?_⟩)
    simpa [List.contains_iff_mem] using h
structure LcParts2 (X : Cx) (c : Cc) (elt tg iter : Expr) (ifs : List Expr) (tg1 iter1 : Expr) (ifs1 : List Expr) (scope : Scope) (vs1 : List Nat) (Rl Rl1 : RLT) (mi : MI) (g : MG) (mt : MT) (mi1 : MI) (g1 : MG) (mt1 : MT) (me : ME) : Prop where
  it : SI X Rl tg iter mi
  blk : BlkOk X.N X.env.scope scope (ownOf c.N scope)
  sub : ∀ i ∈ vs1, i ∈ (ownOf c.N scope).map (·.2)
  tgt : ∀ (s : Shared) (H : Hp) (A : Addr) (cl : List (Str × Addr)) (fp : List Addr), SG (X.blk s H scope (compEnvC scope cl A X.env) fp) Rl (c.comp scope).ro tg g
  tst : ∀ (s : Shared) (H : Hp) (A : Addr) (cl : List (Str × Addr)) (fp : List Addr), PTs (X.blk s H scope (compEnvC scope cl A X.env) fp) ifs (tT X.K mt)
  it1 : ∀ (s : Shared) (H : Hp) (A : Addr) (cl : List (Str × Addr)) (fp : List Addr), SI (X.blk s H scope (compEnvC scope cl A X.env) fp) Rl1 tg1 iter1 mi1
  tgt1 : ∀ (s : Shared) (H : Hp) (A : Addr) (cl : List (Str × Addr)) (fp : List Addr), SG (X.blk s H scope (compEnvC scope cl A X.env) fp) Rl1 (c.compR scope vs1).ro tg1 g1
  tst1 : ∀ (s : Shared) (H : Hp) (A : Addr) (cl : List (Str × Addr)) (fp : List Addr), PTs (X.blk s H scope (compEnvC scope cl A X.env) fp) ifs1 (tT X.K mt1)
  elm : ∀ (s : Shared) (H : Hp) (A : Addr) (cl : List (Str × Addr)) (fp : List Addr), SE (X.blk s H scope (compEnvC scope cl A X.env) fp) elt me
  gok : GOk g
  gok1 : GOk g1
  fld : isSetD iter = false
  fld1 : isSetD iter1 = false
section
variable {elt tg iter tg1 iter1 : Expr} {ifs ifs1 : List Expr} {scope : Scope} {vs1 : List Nat} {Rl Rl1 : RLT} {mi mi1 : MI} {g g1 : MG} {mt mt1 : MT} {me : ME}
theorem LcParts2.se (C : CtxOk X c) (P : LcParts2 X c elt tg iter ifs tg1 iter1 ifs1 scope vs1 Rl Rl1 mi g mt mi1 g1 mt1 me) :
    SE X (.ListComp elt [⟨tg, iter, ifs, 0⟩, ⟨tg1, iter1, ifs1, 0⟩] scope pos) (mLc2 c.N.length mi g mt mi1 g1 mt1 me ((ownOf c.N scope).map (·.2)) vs1) :=
  pe_le (pe_lc2 (g := tG X.K Rl (c.comp scope).ro g) (tt := tT X.K mt) (wi1 := tI X.K Rl1 mi1) (g1 := tG X.K Rl1 (c.compR scope vs1).ro g1) (tt1 := tT X.K mt1) (te := tE X.K me) C.calm (by rw [C.N]; exact C.nd) P.it P.blk P.sub P.tgt P.tst P.it1 P.tgt1 P.tst1 P.elm (folded_of P.fld) (fun _ => folded_of P.fld1)) fun σ H Q h => tE_lc2 P.gok P.gok1 ro_comp ro_compR P.sub h
theorem LcParts2.ss (C : CtxOk X c) {i : Nat} {y : Str} {py spos : Pos} (P : LcParts2 X c elt tg iter ifs tg1 iter1 ifs1 scope vs1 Rl Rl1 mi g mt mi1 g1 mt1 me)
    (hi : X.N[i]? = some y) (hl : X.env.scope.names.lookup y = some .local) (hro : i ∉ c.ro) (hsw : swapsWith (.ListComp elt [⟨tg, iter, ifs, 0⟩, ⟨tg1, iter1, ifs1, 0⟩] scope pos) (some (.Name y py)) spos.line X.env = pure true) :
    SS X c.ro (.Assign [.Name y py] (.ListComp elt [⟨tg, iter, ifs, 0⟩, ⟨tg1, iter1, ifs1, 0⟩] scope pos) spos) (mSet i (mLc2 c.N.length mi g mt mi1 g1 mt1 me ((ownOf c.N scope).map (·.2)) vs1)) :=
  fun W tk => ps_le (ps_setLc2 (g := tG X.K Rl (c.comp scope).ro g) (tt := tT X.K mt) (wi1 := tI X.K Rl1 mi1) (g1 := tG X.K Rl1 (c.compR scope vs1).ro g1) (tt1 := tT X.K mt1) (te := tE X.K me) C.calm (by rw [C.N]; exact C.nd) hi hl hsw P.it P.blk P.sub P.tgt P.tst P.it1 P.tgt1 P.tst1 P.elm (folded_of P.fld) (fun _ => folded_of P.fld1)) fun D σ H h => by
    obtain ⟨F, fm, v, fm', R, em, q, qx⟩ := tS_set hro h
    exact tE_lc2 P.gok P.gok1 ro_comp ro_compR P.sub ⟨F, fm, v, fm', R, em, q⟩
end
theorem cL_parts2 (L : LvOk l) (C : CtxOk X c) {elt tg iter tg1 iter1 : Expr} {ifs ifs1 : List Expr} {is is1 : Int} {scope : Scope} :
    (∀ fm, cL l c elt scope [⟨tg, iter, ifs, is⟩, ⟨tg1, iter1, ifs1, is1⟩] fm = none) ∨ ∃ Rl Rl1 mi g mi1 g1, is = 0 ∧ is1 = 0 ∧ cL l c elt scope [⟨tg, iter, ifs, is⟩, ⟨tg1, iter1, ifs1, is1⟩] = mLc2 c.N.length mi g (cT1 l (c.comp scope) ifs) mi1 g1 (cT1 l (c.comp scope) ifs1) (l.E (c.comp scope) elt) ((ownOf c.N scope).map (·.2)) (tgSlots c.N tg1) ∧
      LcParts2 X c elt tg iter ifs tg1 iter1 ifs1 scope (tgSlots c.N tg1) Rl Rl1 mi g (cT1 l (c.comp scope) ifs) mi1 g1 (cT1 l (c.comp scope) ifs1) (l.E (c.comp scope) elt) := by
  by_cases hc : is = 0 ∧ is1 = 0 ∧ blkC c.N c.sc scope (ownOf c.N scope) = true ∧ isSetD iter = false ∧ isSetD iter1 = false ∧ namesOnly tg = true ∧ namesOnly tg1 = true ∧ (∀ i ∈ tgSlots c.N tg1, i ∈ (ownOf c.N scope).map (·.2))
  · have e0 : cL l c elt scope [⟨tg, iter, ifs, is⟩, ⟨tg1, iter1, ifs1, is1⟩] = (match cG l (c.comp scope) tg, cG l (c.compR scope (tgSlots c.N tg1)) tg1, itOf l c tg iter, itOf l (c.comp scope) tg1 iter1 with
      | some g, some g1, some mi, some mi1 => mLc2 c.N.length mi g (cT1 l (c.comp scope) ifs) mi1 g1 (cT1 l (c.comp scope) ifs1) (l.E (c.comp scope) elt) ((ownOf c.N scope).map (·.2)) (tgSlots c.N tg1)
      | _, _, _, _ => mNo) := by show (if _ then _ else _) = _; rw [if_pos hc] <;> rfl
    obtain ⟨rfl, rfl, h1, h2, h3, h4, h5, h6⟩ := hc
    have hb : BlkOk X.N X.env.scope scope (ownOf c.N scope) := by rw [C.N, C.sc]; exact blkOk_by h1
    cases hg : cG l (c.comp scope) tg with
    | none => exact .inl fun fm => by rw [e0, hg]; rfl
    | some g => cases hg1 : cG l (c.compR scope (tgSlots c.N tg1)) tg1 with
      | none => exact .inl fun fm => by rw [e0, hg, hg1]; rfl
      | some g1 => cases hi : itOf l c tg iter with
        | none => exact .inl fun fm => by rw [e0, hg, hg1, hi]; rfl
        | some mi => cases hi1 : itOf l (c.comp scope) tg1 iter1 with
          | none => exact .inl fun fm => by rw [e0, hg, hg1, hi, hi1]; rfl
          | some mi1 =>
            obtain ⟨Rl, k1, k2⟩ := itOf_ok L C hi
            have k3 : ∃ Rl1, (∀ (s : Shared) (H : Hp) (A : Addr) (cl : List (Str × Addr)) (fp : List Addr), SI (X.blk s H scope (compEnvC scope cl A X.env) fp) Rl1 tg1 iter1 mi1) ∧ ∀ (s : Shared) (H : Hp) (A : Addr) (cl : List (Str × Addr)) (fp : List Addr), SG (X.blk s H scope (compEnvC scope cl A X.env) fp) Rl1 (c.compR scope (tgSlots c.N tg1)).ro tg1 g1 := by
              unfold itOf at hi1
              split at hi1
              · rename_i mi' hw
                split at hi1
                · rename_i ht
                  cases hi1
                  have : ∃ ts k p, tg1 = .Tuple ts k p := by
                    cases tg1 <;> first | (cases ht; done) | exact ⟨_, _, _, rfl⟩
                  obtain ⟨ts, k, p, rfl⟩ := this
                  exact ⟨Dw X.K, fun s H A cl fp => cIw_ok L (comp_ok C hb s H A cl fp) hw, fun s H A cl fp => cG_tup L (compR_ok C hb s H A cl fp) hg1⟩
                · cases hi1
              · cases hi1
                exact ⟨Dq X.K, fun s H A cl fp => cI_ok L (comp_ok C hb s H A cl fp) iter1, fun s H A cl fp => cG_ok L (compR_ok C hb s H A cl fp) hg1⟩
            obtain ⟨Rl1, k4, k5⟩ := k3
            exact .inr ⟨Rl, Rl1, mi, g, mi1, g1, rfl, rfl, by rw [e0, hg, hg1, hi, hi1], k1, hb, h6, fun s H A cl fp => k2 _ _ g (comp_ok C hb s H A cl fp) rfl hg, fun s H A cl fp => cT1_ok L (comp_ok C hb s H A cl fp) ifs, k4, k5, fun s H A cl fp => cT1_ok L (comp_ok C hb s H A cl fp) ifs1, fun s H A cl fp => L.E _ _ (comp_ok C hb s H A cl fp) elt, cG_gok h4 hg, cG_gok h5 hg1, h2, h3⟩
  · exact .inl fun fm => by
      have e0 : cL l c elt scope [⟨tg, iter, ifs, is⟩, ⟨tg1, iter1, ifs1, is1⟩] = mNo := by show (if _ then _ else _) = _; rw [if_neg hc]
      rw [e0]; rfl
theorem two_or (gs : List Comprehension) : (∃ a b, gs = [a, b]) ∨ ∀ a b, gs ≠ [a, b] := by
  rcases gs with _ | ⟨a, _ | ⟨b, _ | ⟨c, gs⟩⟩⟩
  · exact .inr fun _ _ h => by cases h
  · exact .inr fun _ _ h => by cases h
  · exact .inl ⟨a, b, rfl⟩
  · exact .inr fun _ _ h => by cases h
theorem cL_ok (L : LvOk l) (C : CtxOk X c) {elt : Expr} {scope : Scope} {gs : List Comprehension} : SE X (.ListComp elt gs scope pos) (cL l c elt scope gs) := by
  rcases two_or gs with ⟨⟨tg, iter, ifs, is⟩, ⟨tg1, iter1, ifs1, is1⟩, rfl⟩ | hgs
  · rcases cL_parts2 (X := X) L C (elt := elt) (scope := scope) (tg := tg) (iter := iter) (ifs := ifs) (is := is) (tg1 := tg1) (iter1 := iter1) (ifs1 := ifs1) (is1 := is1) with h | ⟨Rl, Rl1, mi, g, mi1, g1, rfl, rfl, e, P⟩
    · exact se_no' h
    · rw [e]; exact P.se C
  · rcases cL_parts (X := X) L C (elt := elt) (scope := scope) hgs with h | ⟨tg, iter, ifs, Rl, mi, g, rfl, e, P⟩
    · exact se_no' h
    · rw [e]; exact P.se C
theorem cBool_ok (L : LvOk l) (C : CtxOk X c) {op : BoolOp} : ∀ es : List Expr, SE X (.BoolOp op es pos) (cBool l c op es)
  | [] => se_no
  | [e] => se_one (L.E X c C e)
  | e :: e' :: es => by
    cases op with
    | And => exact se_and (L.E X c C e) (cBool_ok L C (e' :: es))
    | Or => exact se_or (L.E X c C e) (cBool_ok L C (e' :: es))
theorem cBoolT_ok (L : LvOk l) (C : CtxOk X c) {op : BoolOp} : ∀ es : List Expr, SW X (.BoolOp op es pos) (cBoolT l c op es)
  | [] => ⟨fun _ _ _ _ _ _ _ ⟨_, _, _, _, _, em, _⟩ => nomatch em⟩
  | [e] => by
    cases op with
    | And => exact sw_and1 (L.T X c C e)
    | Or => exact sw_or1 (L.T X c C e)
  | e :: e' :: es => by
    cases op with
    | And => exact sw_and (L.T X c C e) (cBoolT_ok L C (e' :: es))
    | Or => exact sw_or (L.T X c C e) (cBoolT_ok L C (e' :: es))
theorem cCmp_ok (L : LvOk l) (C : CtxOk X c) {a : Expr} {ops : List CmpOp} {bs : List Expr} : SE X (.Compare a ops bs pos) (cCmp l c a ops bs) ∧ ST X (.Compare a ops bs pos) (mB (cCmp l c a ops bs)) := by
  unfold cCmp
  split
  · rename_i op b
    split
    · exact ⟨se_no, st_no'⟩
    · rename_i hs
      split
      · rename_i f hf
        obtain ⟨r, h1, h2⟩ := cmpF_ok C hf
        have hm : behindInMarks op b = false := noMark_of (by simpa using hs)
        exact ⟨se_cmp h1 h2 (L.E X c C a) (L.E X c C b) hm, st_cmp h1 h2 (L.E X c C a) (L.E X c C b) hm⟩
      · exact ⟨se_no, st_no'⟩
  · rename_i op op' b d
    split
    · exact ⟨se_no, st_no'⟩
    · rename_i hs
      split
      · rename_i f f' hf hf'
        obtain ⟨r, h1, h2⟩ := cmpF_ok C hf
        obtain ⟨r', h1', h2'⟩ := cmpF_ok C hf'
        simp only [Bool.or_eq_true, not_or, Bool.not_eq_true] at hs
        have hm : lastMarks [op, op'] [b, d] = false := lastMark_of hs.2
        exact ⟨se_chain h1 h1' h2 h2' (L.E X c C a) (L.E X c C b) (L.E X c C d) hm, st_chain h1 h1' h2 h2' (L.E X c C a) (L.E X c C b) (L.E X c C d) hm⟩
      · exact ⟨se_no, st_no'⟩
  · exact ⟨se_no, st_no'⟩
theorem cE_ok (L : LvOk l) (C : CtxOk X c) (e : Expr) : SE X e (cE l c e) := by
  unfold cE
  split
  · split
    · rename_i i hi
      obtain ⟨h1, h2, h3, h4⟩ := slot_ok C hi
      exact se_var i h1 h2 h3 h4
    · split
      · rename_i i hi
        unfold Cc.con at hi
        split at hi
        · rename_i hg
          obtain ⟨g1, g2, _⟩ := glo_ok C hg
          exact se_con g1 (C.gk _ _ hi) g2
        · cases hi
      · exact se_no
  · split
    · exact se_int
    · exact se_bl
    · exact se_str
    · exact se_non
    · exact se_no
  · split
    · rename_i f hf
      obtain ⟨r, h1, h2⟩ := opF_ok (X := X) hf
      exact se_op h1 h2 (L.E X c C _) (L.E X c C _)
    · exact se_no
  · split
    · exact se_not (L.E X c C _)
    · exact se_un un_neg p_neg (L.E X c C _)
    · exact se_no
  · exact cBool_ok L C _
  · exact (cCmp_ok L C).1
  · exact se_ife (L.T X c C _) (L.E X c C _) (L.E X c C _)
  · exact se_lst (cA_ok L C _)
  · exact se_tup (cA_ok L C _)
  · rename_i e1 s1 p1
    split
    · exact se_slice (L.E X c C _) (cO_ok L C _) (cO_ok L C _)
    · rename_i lo hi st p4
      split
      · rename_i hb
        unfold isBack at hb
        split at hb
        · exact se_back (L.E X c C _)
        · cases hb
      · exact se_no
    · rename_i h1 h2
      have hs : isSlice s1 = false := by
        cases s1 <;> first | rfl | skip
        rename_i lo hi st p
        cases st with
        | none => exact absurd rfl (h1 lo hi p)
        | some st => exact absurd rfl (h2 lo hi st p)
      exact se_ix ix_seq p_ix (L.E X c C _) (L.E X c C _) (plainIx_of hs)
  · exact cL_ok L C
  · split
    · exact cFun_ok L C _ _
    · split
      · rename_i hk
        simp only [Bool.and_eq_true, List.isEmpty_iff] at hk
        rw [hk.1]
        exact cMet_ok L C hk.2 _
      · exact se_no
    · exact se_no
  · rename_i e1 g p1
    split
    · rename_i hn
      have hb : attributeBase e1 g X.env (eval e1 X.env) = eval e1 X.env := by
        cases e1 <;> first | (cases hn; done) | rfl
      exact se_fld (L.E X c C _) hb fun nm A h hn => fld_ok C h hn
    · exact se_no
  · exact se_no
theorem tmpO_ok {b : Bool} {m : MT} (h : ST X e m) : ST X e (mTmpO b m) := by
  cases b
  · exact h
  · exact st_tmp h
theorem cT_d (h1 : cT l c e = mTmpO (tmpT c e) (mB (l.E c e))) (h2 : ST X e (mB (l.E c e))) : ST X e (cT l c e) := by
  rw [h1]
  exact tmpO_ok h2
theorem cT_c {a : Expr} {ops : List CmpOp} {bs : List Expr} (L : LvOk l) (C : CtxOk X c) : ST X (.Compare a ops bs pos) (cT l c (.Compare a ops bs pos)) := by
  rw [show cT l c (.Compare a ops bs pos) = mTmpO (tmpT c (.Compare a ops bs pos)) (mB (cCmp l c a ops bs)) from rfl]
  exact tmpO_ok (cCmp_ok L C).2
theorem cT_n {x : Str} (L : LvOk l) (C : CtxOk X c) : ST X (.Name x pos) (cT l c (.Name x pos)) := by
  rw [show cT l c (.Name x pos) = mTmpO (tmpT c (.Name x pos)) (mTru (l.E c (.Name x pos))) from rfl]
  exact tmpO_ok (st_tru (L.E X c C _))
theorem cT_ok (L : LvOk l) (C : CtxOk X c) (e : Expr) : ST X e (cT l c e) := by
  cases e <;> first
    | exact cT_c L C
    | exact cT_n L C
    | exact sw_st (cBoolT_ok L C _)
    | exact st_no
    | exact cT_d rfl (st_val (L.E X c C _))
    | skip
  rename_i op a p
  cases op <;> first
    | exact st_not (L.T X c C _)
    | exact cT_d rfl (st_val (L.E X c C _))
end
end Rf

namespace Rf
open PySem PySem.Spec PyProof.Rows L2

section
variable {l : Lv} {X : Cx} {c : Cc} {e o tg : Expr} {es ts vs : List Expr} {pos p : Pos} {k : Nat}
theorem swapNs_ok (C : CtxOk X c) {r : Option (List Str)} {k k' : Nat} {p p' : Pos} (h : swapNs c ts vs = some r) : swappedStores [.Tuple ts k p] (.Tuple vs k' p') X.env = pure r := by
  have hb : (X.env.blockKind != .function) = false := by
    unfold Env.blockKind
    rw [C.sc, C.kind]
    rfl
  have hk : ∀ x, X.env.kindOf x = c.sc.names.lookup x := fun x => by unfold Env.kindOf; rw [C.sc]
  have hs : ∀ f : Expr → Bool, (∀ e, f e = isStar e) → vs.any f = vs.any isStar := fun f hf => by rw [funext hf]
  have hm : ∀ f : Expr → Option Str, (∀ e, f e = nmLoc c ((ts.head?.map (·.pos.line)).getD 0) e) → ts.filterMap f = ts.filterMap (nmLoc c ((ts.head?.map (·.pos.line)).getD 0)) := fun f hf => by rw [funext hf]
  unfold swapNs at h
  unfold swappedStores
  simp only [hb, Bool.or_false, hk]
  rw [hs _ (fun e => by cases e <;> rfl), hm _ (fun e => by cases e <;> rfl)]
  split at h
  · rename_i h1
    cases h
    rw [if_pos h1]
  · rename_i h1
    rw [if_neg h1]
    split at h
    · rename_i h2
      cases h
      rw [if_pos h2]
    · rename_i h2
      rw [if_neg h2]
      split at h
      · rename_i h3
        cases h
        rw [if_pos h3]
      · rename_i h3
        rw [if_neg h3]
        split at h
        · rename_i h4
          cases h
          rw [if_pos h4]
        · rename_i h4
          rw [if_neg h4]
          split at h
          · cases h
          · rename_i h5
            cases h
            rw [if_neg h5]
theorem swapped_tup (h : isTupE e = none) : swappedStores [tg] e X.env = pure none := by
  cases e <;> first | (cases h; done) | skip
  all_goals (cases tg <;> rfl)
theorem swapped_sub {i : Expr} : swappedStores [.Subscript o i p] e X.env = pure none := rfl
theorem cV_ok (L : LvOk l) (C : CtxOk X c) {i : Nat} {x : Str} {px : Pos} (h : c.sto x = some i) : SS X c.ro (.Assign [.Name x px] e pos) (mSet i (cV l c e)) := by
  obtain ⟨h1, h2, h3, h4⟩ := sto_ok' C h
  have hN : X.N.Nodup := by rw [C.N]; exact C.nd
  have plain : ∀ {m : ME}, SX X e m → isCompr e = false → SS X c.ro (.Assign [.Name x px] e pos) (mSet i m) := fun he hc => ss_set hN h3 h1 h2 he (swap_of hc) h4
  have no : SS X c.ro (.Assign [.Name x px] e pos) (mSet i mNo) := fun _ _ => ⟨fun _ _ _ _ _ _ ⟨_, _, _, _, _, em, _⟩ => nomatch em⟩
  by_cases hl : ∃ elt gs scope p, e = .ListComp elt gs scope p
  · obtain ⟨elt, gs, scope, p, rfl⟩ := hl
    show SS X c.ro _ (mSet i (cL l c elt scope gs))
    have dead : (∀ fm, cL l c elt scope gs fm = none) → SS X c.ro (.Assign [.Name x px] (.ListComp elt gs scope p) pos) (mSet i (cL l c elt scope gs)) := fun h0 => fun _ _ => ⟨fun _ _ _ _ _ _ ⟨_, fm, _, _, _, em, _⟩ => by
      unfold mSet at em
      rw [h0 fm] at em
      cases em⟩
    rcases two_or gs with ⟨⟨tg, iter, ifs, is⟩, ⟨tg1, iter1, ifs1, is1⟩, rfl⟩ | hgs
    · rcases cL_parts2 (X := X) L C (elt := elt) (scope := scope) (tg := tg) (iter := iter) (ifs := ifs) (is := is) (tg1 := tg1) (iter1 := iter1) (ifs1 := ifs1) (is1 := is1) with h0 | ⟨Rl, Rl1, mi, g, mi1, g1, rfl, rfl, eq, P⟩
      · exact dead h0
      · rw [eq]
        have sw : swapsWith (.ListComp elt [⟨tg, iter, ifs, 0⟩, ⟨tg1, iter1, ifs1, 0⟩] scope p) (some (.Name x px)) pos.line X.env = pure (X.env.blockKind == .function && X.env.kindOf x == some .local && px.line == p.line && !(scope.names.any fun (n, k) => n == x && (k == .local || k == .cell))) := rfl
        cases hb : (X.env.blockKind == .function && X.env.kindOf x == some .local && px.line == p.line && !(scope.names.any fun (n, k) => n == x && (k == .local || k == .cell))) with
        | true =>
          rw [hb] at sw
          have hloc : X.env.scope.names.lookup x = some .local := by
            simp only [Bool.and_eq_true] at hb
            have := hb.1.1.2
            exact eq_of_beq this
          exact P.ss C h1 hloc h3 sw
        | false =>
          rw [hb] at sw
          exact ss_set hN h3 h1 h2 (sx_of (P.se C)) sw h4
    rcases cL_parts (X := X) L C (elt := elt) (scope := scope) hgs with h0 | ⟨tg, iter, ifs, Rl, mi, g, rfl, eq, P⟩
    · refine fun _ _ => ⟨fun _ _ _ _ _ _ ⟨_, fm, _, _, _, em, _⟩ => ?_⟩
      unfold mSet at em
      rw [h0 fm] at em
      cases em
    · rw [eq]
      have sw : swapsWith (.ListComp elt [⟨tg, iter, ifs, 0⟩] scope p) (some (.Name x px)) pos.line X.env = pure (X.env.blockKind == .function && X.env.kindOf x == some .local && px.line == p.line && !(scope.names.any fun (n, k) => n == x && (k == .local || k == .cell))) := rfl
      cases hb : (X.env.blockKind == .function && X.env.kindOf x == some .local && px.line == p.line && !(scope.names.any fun (n, k) => n == x && (k == .local || k == .cell))) with
      | true =>
        rw [hb] at sw
        have hloc : X.env.scope.names.lookup x = some .local := by
          simp only [Bool.and_eq_true] at hb
          have := hb.1.1.2
          exact eq_of_beq this
        exact P.ss C h1 hloc h3 sw
      | false =>
        rw [hb] at sw
        exact ss_set hN h3 h1 h2 (sx_of (P.se C)) sw h4
  · by_cases hs : isSD e = true
    · have : cV l c e = mNo := by
        cases e <;> first | (cases hs; done) | rfl
      rw [this]
      exact no
    · have hs' : isSD e = false := by simpa using hs
      have hc : isCompr e = false := by
        cases e <;> first | rfl | (cases hs'; done) | exact absurd ⟨_, _, _, _, rfl⟩ hl
      have : cV l c e = cX l c e := by
        cases e <;> first | rfl | (cases hs'; done) | exact absurd ⟨_, _, _, _, rfl⟩ hl
      rw [this]
      exact plain (cX_ok L C e) hc
theorem cTgt_ok (L : LvOk l) (C : CtxOk X c) (hs : isCompr e = false) (hw : swappedStores [.Tuple ts k p] e X.env = pure none) : SS X c.ro (.Assign [.Tuple ts k p] e pos) (cTgt l c ts e) := by
  unfold cTgt
  split
  · rename_i r hr
    have hg : cG l c (.Tuple ts k p) = some (gTupD ts.length r) := by
      show (cGs l c ts).map _ = _
      rw [hr]; rfl
    exact ss_asg (cX_ok L C e) (cG_ok L C hg) (swapSole_of hs) hw
  · exact ss_no
theorem cParG_ok (L : LvOk l) (C : CtxOk X c) {k' : Nat} {p' : Pos} (hw : swappedStores [.Tuple ts k p] (.Tuple vs k' p') X.env = pure none) : SS X c.ro (.Assign [.Tuple ts k p] (.Tuple vs k' p') pos) (cParG l c ts vs) := by
  unfold cParG
  split
  · split
    · rename_i i j hi hj
      obtain ⟨a1, a2, a3, a4⟩ := sto_ok' C hi
      obtain ⟨b1, b2, b3, b4⟩ := sto_ok' C hj
      exact ss_parT C.calm (by rw [C.N]; exact C.nd) a1 b1 a2 b2 a4 b4 (fun k hk => by
        rcases List.mem_cons.1 hk with e | hk
        · rw [e]; exact a3
        · rcases List.mem_cons.1 hk with e | hk
          · rw [e]; exact b3
          · exact nomatch hk) (cA_ok L C _) (swapSole_of rfl) hw
    · exact ss_no
  · exact ss_no
theorem cPar_ok (L : LvOk l) (C : CtxOk X c) {k' : Nat} {p' : Pos} : SS X c.ro (.Assign [.Tuple ts k p] (.Tuple vs k' p') pos) (cPar l c ts vs) := by
  have hN : X.N.Nodup := by rw [C.N]; exact C.nd
  unfold cPar
  split
  · rename_i x px y py a b
    split
    · rename_i hw
      split
      · rename_i i j hi hj
        split
        · rename_i ne
          obtain ⟨a1, a2, a3⟩ := loc_ok C hi
          obtain ⟨b1, b2, b3⟩ := loc_ok C hj
          refine ss_par2 C.calm hN a1 b1 ne a2 b2 (fun n hn => ?_) (cA_ok L C [a, b]) (swapNs_ok C hw) (swapSole_of rfl)
          rcases List.mem_cons.mp hn with rfl | hn
          · exact a3
          · rcases List.mem_cons.mp hn with rfl | hn
            · exact b3
            · cases hn
        · exact ss_no
      · exact ss_no
    · exact ss_no
  · rename_i x px y py z pz a b d
    split
    · rename_i hw
      split
      · rename_i i j n hi hj hn
        split
        · rename_i ne
          obtain ⟨a1, a2, a3⟩ := loc_ok C hi
          obtain ⟨b1, b2, b3⟩ := loc_ok C hj
          obtain ⟨d1, d2, d3⟩ := loc_ok C hn
          refine ss_par3 C.calm hN a1 b1 d1 ne.1 ne.2.1 ne.2.2 a2 b2 d2 (fun n hn => ?_) (cA_ok L C [a, b, d]) (swapNs_ok C hw) (swapSole_of rfl)
          rcases List.mem_cons.mp hn with rfl | hn
          · exact a3
          · rcases List.mem_cons.mp hn with rfl | hn
            · exact b3
            · rcases List.mem_cons.mp hn with rfl | hn
              · exact d3
              · cases hn
        · exact ss_no
      · exact ss_no
    · exact ss_no
  · exact ss_no
theorem isTupE_eq {vs : List Expr} (h : isTupE e = some vs) : ∃ k p, e = .Tuple vs k p := by
  cases e <;> first | (cases h; done) | skip
  cases h
  exact ⟨_, _, rfl⟩
theorem cAsg_ok (L : LvOk l) (C : CtxOk X c) : SS X c.ro (.Assign [tg] e pos) (cAsg l c e tg) := by
  cases tg <;> first | exact ss_no | skip
  · rename_i o i p
    show SS X c.ro _ (if isCompr e = true then mNoS else _)
    split
    · exact ss_no
    · rename_i hc
      split
      · rename_i g hg
        exact ss_asg (sx_of (L.E X c C e)) (cG1_ok L C hg) (swapSole_of (by simpa using hc)) swapped_sub
      · exact ss_no
  · rename_i x p
    show SS X c.ro _ (match c.sto x with | some i => mSet i (cV l c e) | none => mNoS)
    split
    · rename_i i hi
      exact cV_ok L C hi
    · exact ss_no
  · rename_i ts k p
    show SS X c.ro _ (match isTupE e with | some vs => (match swapNs c ts vs with | some (some _) => cPar l c ts vs | some none => (if muT c ts vs = true then cParG l c ts vs else cTgt l c ts e) | none => mNoS) | none => if isCompr e then mNoS else cTgt l c ts e)
    split
    · rename_i vs hv
      obtain ⟨k', p', rfl⟩ := isTupE_eq hv
      split
      · exact cPar_ok L C
      · rename_i hw
        split
        · exact cParG_ok L C (swapNs_ok C hw)
        · exact cTgt_ok L C rfl (swapNs_ok C hw)
      · exact ss_no
    · rename_i hv
      split
      · exact ss_no
      · rename_i hc
        exact cTgt_ok L C (by simpa using hc) (swapped_tup hv)
theorem cRaise_ok (L : LvOk l) (C : CtxOk X c) : SS X c.ro (.Raise (some e) none pos) (cRaise l c e) := by
  unfold cRaise
  split
  · rename_i x px args pc
    split
    · rename_i hg
      obtain ⟨g1, g2, g3⟩ := glo_ok C hg
      split
      · rename_i r hr
        obtain ⟨A, o, m, n, _, _⟩ := C.xr hr
        split
        · rename_i f hf
          split
          · rename_i e1
            split
            · exact ss_no
            · rename_i hs
              obtain ⟨rm, hno, B, n1, n2, bmB, fI, fd, T, iC, tI, F1, hb⟩ := o.ini f hf
              exact ss_raise C.calm T iC tI hno F1 rm hb g1 m n (cA_ok L C [e1]) g2 (by simpa using hs)
          · exact ss_no
        · rename_i hf
          split
          · obtain ⟨B, n1, n2, bmB, F, q, kp, ex, ty⟩ := o.bare hf
            exact ss_raise0 C.calm F q m kp (raises_own ex ty) g1 n g2
          · exact ss_no
      · exact ss_no
    · exact ss_no
  · exact ss_no
theorem lit_ok {k : Const} {d : PyData} {j : Nat} {p : Pos} {K : PySem.W.Frag} (h : litOf k = some d) : ∃ v : V, (∀ X' : Cx, PE X' (.Constant k j p) (fun σ H Q => Q v H)) ∧ ∀ F : Hp, Dq K F v d := by
  unfold litOf at h
  split at h
  · cases h; exact ⟨.int _, fun X' => pe_int, fun F => .int _⟩
  · cases h; exact ⟨.bl _, fun X' => pe_bl, fun F => .bl _⟩
  · cases h; exact ⟨.str _, fun X' => pe_str, fun F => .str _⟩
  · cases h; exact ⟨.non, fun X' => pe_non, fun F => .non⟩
  · cases h
theorem CtxOk.tr (C : CtxOk X c) (pn : List (Addr × Obj)) (xe : Value → Shared → Prop) : CtxOk (X.tr pn xe) c :=
  ⟨C.N, C.sc, C.kind, C.nd, C.calm, C.fn, C.gd, C.un, C.bl, fun x d h => ⟨(C.df x d h).ex⟩, fun r h => by
    obtain ⟨A, o⟩ := C.xs r h
    exact ⟨A, ⟨o.mg, o.ns, o.xa, o.ini, o.bare, o.bi, o.ow⟩⟩, C.gk⟩
theorem cTry_ok (L : LvOk l) (C : CtxOk X c) (S : StOk X) {body : List Stmt} {hs : List ExceptHandler} : SS X c.ro (.Try body hs [] [] pos) (cTry l c body hs) := by
  have hN : X.N.Nodup := by rw [C.N]; exact C.nd
  have hb : ∀ (pn : List (Addr × Obj)) (xe : Value → Shared → Prop), PassesOwn (model X.prog X.w) X.A X.env xe → SSs (X.tr pn xe) c.ro body (l.B c body) := fun pn xe hp => L.B (X.tr pn xe) c (C.tr pn xe) ⟨hp, S.stk, S.frm, S.ex⟩ body
  unfold cTry
  split
  · rename_i t n y py z pz ap hpos
    split
    · rename_i hz
      obtain ⟨rfl, hpl⟩ := hz
      split
      · rename_i j i nms hj hi hn
        split
        · rename_i ne
          obtain ⟨a1, a2, a3⟩ := loc_ok C hj
          obtain ⟨b1, b2, b3, b4⟩ := sto_ok' C hi
          obtain ⟨p1, p2, p3⟩ := plainN_of hpl
          obtain ⟨Cs, k1, k2⟩ := clause_ok C hn
          exact ss_tryC S.stk S.frm S.ex hN a1 a2 p1 p2 b1 b2 b4 b3 a3 ne k1 k2 hb
        · exact ss_no
      · exact ss_no
    · exact ss_no
  · rename_i t k j p1 rp hpos
    split
    · rename_i nms d hn hd
      obtain ⟨Cs, k1, k2⟩ := clause_ok C hn
      exact ss_tryR S.stk S.frm k1 (lit_ok hd) k2 hb
    · exact ss_no
  · exact ss_no
theorem cAug_ok (L : LvOk l) (C : CtxOk X c) {i : Nat} {x : Str} {px : Pos} {op : Operator} (h : c.sto x = some i) : SS X c.ro (.AugAssign (.Name x px) op e pos) (cAug l c i e op) := by
  obtain ⟨h1, h2, h3, h4⟩ := sto_ok' C h
  have hN : X.N.Nodup := by rw [C.N]; exact C.nd
  cases op <;> first | exact ss_augA hN h3 h1 h2 (L.E X c C _) h4 | exact ss_aug hN h3 h1 h2 (L.E X c C _) iop_sub p_sub h4 | exact ss_aug hN h3 h1 h2 (L.E X c C _) iop_mul p_mul h4 | exact ss_no
theorem cS_ok (L : LvOk l) (C : CtxOk X c) (hx : StOk X) (st : Stmt) : SS X c.ro st (cS l c st) := by
  have hp := hx.ps
  unfold cS
  split
  · split
    · split
      · rename_i i hi
        exact cAug_ok L C hi
      · exact ss_no
    · exact ss_no
  · split
    · unfold mGhO
      split
      · exact cAsg_ok L C
      · exact ss_gh (cAsg_ok L C)
    · exact ss_no
  · split
    · exact ss_no
    · rename_i hc
      exact ss_expr (cX_ok L C _) (swap_of (by simpa using hc))
  · split
    · exact ss_ret (cX_ok L C _)
    · exact ss_retN
  · exact ss_pass
  · exact ss_break
  · exact ss_cont
  · exact ss_if (L.T X c C _) (L.B X c C hx _) (L.B X c C hx _)
  · rename_i tg iter body els p
    split
    · split
      · exact ss_no
      · rename_i hs
        have hs' : isSetD iter = false := by simpa using hs
        split
        · rename_i g hg
          split
          · rename_i mi hi
            split
            · rename_i ht
              have : ∃ ts k p, tg = .Tuple ts k p := by
                cases tg <;> first | (cases ht; done) | exact ⟨_, _, _, rfl⟩
              obtain ⟨ts, k, p, rfl⟩ := this
              exact ss_for hp C.calm (cIw_ok L C hi) (cG_tup L C hg) (L.B X c C hx _) (folded_of hs')
            · exact ss_no
          · exact ss_for hp C.calm (cI_ok L C iter) (cG_ok L C hg) (L.B X c C hx _) (folded_of hs')
        · exact ss_no
    · exact ss_no
  · split
    · exact ss_while hp (L.T X c C _) (L.B X c C hx _)
    · exact ss_no
  · split
    · exact cRaise_ok L C
    · exact ss_no
  · split
    · exact cTry_ok L C hx
    · exact ss_no
  · exact ss_no
theorem cB_ok (L : LvOk l) (C : CtxOk X c) (hx : StOk X) : ∀ ss : List Stmt, SSs X c.ro ss (cB l c ss)
  | [] => sss_nil
  | [s] => sss_one (cS_ok L C hx s)
  | s :: s' :: ss => sss_cons (cS_ok L C hx s) (cB_ok L C hx (s' :: ss))
end
theorem lvS_ok {l : Lv} (L : LvOk l) : LvOk (lvS l) := ⟨fun X c C e => cE_ok L C e, fun X c C e => cT_ok L C e, fun X c C hx ss => cB_ok L C hx ss⟩
theorem lv_ok : ∀ n, LvOk (lv n)
  | 0 => lv0_ok
  | n + 1 => lvS_ok (lv_ok n)

structure DfOk (K : PySem.W.Frag) (mg : Str → Option Value) (d : DR) : Prop where
  ex : ∃ (f : Addr) (fd : FuncData), mg d.name = some (.ref f) ∧ FunV K d.name d.name d.st f fd ∧ Binds K fd d.ps [] ∧ (∀ ks ∈ d.kws, KwB K fd d.ps ks (kwPm d.ps ks)) ∧ (d.df = true → ∃ e0 : Addr, EmpT K e0 ∧ Binds K fd d.ps [.ref e0])
  scope : FnScope d.N d.ps (defScope d.st)
  ro : ∀ i ∈ d.ro, i < d.ps.length
  gk : ∀ x i, findK x d.gk = some i → ∃ u, mg x = some u ∧ RelV (.int i) u
section
variable {P : Program} {w : World} {K : PySem.W.Frag} {mg : Str → Option Value} {base : Heap} {lvl : Nat} {ds : List DR} {bl : Str → Bool}
theorem findD_mem {x : Str} : ∀ {ds : List DR} {d : DR}, findD x ds = some d → d ∈ ds ∧ d.name = x
  | [], _, h => by cases h
  | d :: ds, d', h => by
    unfold findD at h
    split at h
    · rename_i e; cases h; exact ⟨by simp, e⟩
    · obtain ⟨a, b⟩ := findD_mem h
      exact ⟨List.mem_cons_of_mem _ a, b⟩
structure ClOk (K : PySem.W.Frag) (mg : Str → Option Value) (xs : List XR) (r : XR) (C : Addr) : Prop where
  mg : mg r.nm = some (.ref C)
  ns : PySem.W.nsIn K mainGlobals r.nm = some (some (.ref C))
  xa : XA K C
  ini : ∀ f, r.fld = some f → PySem.W.findIn K (.ref C) f = some none ∧ ∃ (B newId initId : String) (bmB : List Value) (fI : Addr) (fd : FuncData) (x q : Str) (st : Stmt), XC K C B newId initId bmB ∧ PySem.W.findIn K (.ref C) "__init__" = some (some (.ref fI)) ∧ PySem.W.typeIn K (.ref fI) = some (.type "function") ∧
    Fun K x q st fI fd ∧ FnScope ["self", f] ["self", f] (defScope st) ∧ isInit f st = true ∧ plainN f = true ∧ Binds K fd ["self", f] []
  bare : r.fld = none → ∃ (B newId initId : String) (bmB : List Value), ExcBaseFacts B newId initId bmB ∧ PySem.W.excIn K C bmB newId = true ∧ PySem.W.keepIn K (.ref C) = true ∧ PySem.W.subIn K (.ref C) (.type "BaseException") = some true ∧ PySem.W.typeIn K (.ref C) = some (.type "type")
  bi : ∀ T ∈ exTys, PySem.W.kitOne K (.ref C) (.type T) = some (r.up.contains (T : Str))
  ow : ∀ r' ∈ xs, ∀ C', PySem.W.nsIn K mainGlobals r'.nm = some (some (.ref C')) → PySem.W.kitOne K (.ref C) (.ref C') = some (decide (r'.nm = r.nm)) ∧ PySem.W.exmOne K (.ref C) (.ref C') = some (decide (r'.nm = r.nm))
theorem envD_ok {xs : List XR} (hd : ∀ d ∈ ds, DfOk K mg d) (hb : ∀ x, bl x = true → mg x = none) (hxs : ∀ r ∈ xs, ∃ C, ClOk K mg xs r C) : ∀ (n : Nat) (d : DR), d ∈ ds → ∀ (f : Addr) (fd : FuncData), mg d.name = some (.ref f) → FunV K d.name d.name d.st f fd →
    FnG P w K mg base (n + 3) f fd d.ps (spM K (dm lvl d (envD lvl ds bl xs n) bl xs))
  | n, d, hm, f, fd, hf, Fn => by
    have D := hd d hm
    refine fnG_ok Fn D.scope D.ro fun cdv A outer s H E hr hgd => ?_
    refine (lv_ok lvl).B (cxOf (L2.CX P w) P w K mg base d.N d.name (defScope d.st) f cdv A outer s H E) (cOf d (envD lvl ds bl xs n) bl xs) ⟨rfl, rfl, D.scope.kind, D.scope.nd, rfl, fun _ _ => rfl, hgd, ?_, hb, fun x di hx => ?_, fun r h => ?_, D.gk⟩ ⟨passes_of rfl, rfl, rfl, rfl⟩ (defBody d.st)
    · have := hr.un
      show (A.deeper _).units + 100 < cLine
      omega
    · cases n with
      | zero => cases hx
      | succ m =>
        have hx : envD lvl ds bl xs (m + 1) x = some di := hx
        unfold envD at hx
        split at hx
        · rename_i d' hd'
          cases hx
          obtain ⟨hm', rfl⟩ := findD_mem hd'
          obtain ⟨f', fd', h1, h2, h3, h4, h5⟩ := (hd d' hm').ex
          refine ⟨m + 3, f', fd', envD_ok hd hb hxs m d' hm' f' fd' h1 h2, hr, h1, h2.kp, h3, fun ks pm hk => ?_, h5⟩
          simp only [DR.kw] at hk
          split at hk
          · rename_i hin
            cases hk
            exact h4 ks hin
          · cases hk
        · cases hx
    · obtain ⟨C, o⟩ := hxs r h
      refine ⟨C, o.mg, o.ns, o.xa, fun f' hf' => ?_, o.bare, o.bi, o.ow⟩
      obtain ⟨h1, B, n1, n2, bmB, fI, fdI, x, q, st, T, iC, tI, FI, S, hi, hp, hbd⟩ := o.ini f' hf'
      exact ⟨hr.mono (by omega), h1, B, n1, n2, bmB, fI, fdI, T, iC, tI, init_ok FI S hi hp, hbd⟩
end
end Rf

namespace Rf
open PySem PySem.Spec PyProof.Rows L2
inductive Base4 : String → String → String → List Value → Prop
  | v : Base4 "ValueError" "ValueError.__new__" "ValueError.__init__" [.type "ValueError", .type "Exception", .type "BaseException", .type "object"]
  | l : Base4 "LookupError" "LookupError.__new__" "LookupError.__init__" [.type "LookupError", .type "Exception", .type "BaseException", .type "object"]
  | r : Base4 "RuntimeError" "RuntimeError.__new__" "RuntimeError.__init__" [.type "RuntimeError", .type "Exception", .type "BaseException", .type "object"]
  | o : Base4 "OverflowError" "OverflowError.__new__" "OverflowError.__init__" [.type "OverflowError", .type "ArithmeticError", .type "Exception", .type "BaseException", .type "object"]
theorem Base4.fb {B n i : String} {bm : List Value} (h : Base4 B n i bm) : ExcBaseFacts B n i bm := by
  cases h
  · exact PySem.F.excBase_ValueError
  · exact PySem.F.excBase_LookupError
  · exact PySem.F.excBase_RuntimeError
  · exact PySem.F.excBase_OverflowError
theorem Base4.fs {B n i : String} {bm : List Value} (h : Base4 B n i bm) : StoreFacts B bm "object.__setattr__" "object" := by
  cases h
  · exact PySem.F.store_ValueError
  · exact PySem.F.store_LookupError
  · exact PySem.F.store_RuntimeError
  · exact PySem.F.store_OverflowError
section
variable {K : PySem.W.Frag} {h : Heap} {mg : Str → Option Value} {xs : List XR} {r : XR} {C fI : Addr} {B newId initId : String} {bmB : List Value}
end
end Rf

namespace Rf
open PySem PySem.Spec PyProof.Rows L2
abbrev mYes : MT := fun fm => some (true, fm)
abbrev mIndex (mo : ME) (ma : MA) : ME := fun fm => match mMt "tuple" (fIdx true) mo ma fm with
  | some r => some r
  | none => match mMt "list" (fIdx false) mo ma fm with
    | some r => some r
    | none => mMt "list" fFindL mo ma fm
abbrev mCount (mo : ME) (ma : MA) : ME := fun fm => match mMt "tuple" (fCnt true) mo ma fm with
  | some r => some r
  | none => mMt "list" (fCnt false) mo ma fm
end Rf

namespace Rf
open PySem PySem.Spec PyProof.Rows L2
mutual
def sz : PyData → Nat
  | .none => 10
  | .bool _ => 10
  | .int _ => 60
  | .str s => 10 * s.length + 10
  | .list xs => szA xs + 10
  | .tuple xs => szA xs + 10
  | .dict _ => 10
def szA : List PyData → Nat
  | [] => 0
  | x :: xs => sz x + 2 + szA xs
end
theorem szA_nil : szA [] = 0 := by simp [szA]
theorem szA_cons (x : PyData) (xs : List PyData) : szA (x :: xs) = sz x + 2 + szA xs := by simp [szA]
def Ok (l b : Nat) : Nat → PyData → Prop
  | _, .none => True
  | _, .bool _ => True
  | _, .int i => i.natAbs < b
  | _, .str s => PyData.strOk s = true ∧ s.length ≤ 100
  | h + 1, .list ds => ds.length ≤ l ∧ ∀ x ∈ ds, Ok l b h x
  | h + 1, .tuple ds => ds.length ≤ l ∧ ∀ x ∈ ds, Ok l b h x
  | _, _ => False
theorem Ok.mono {l l' b b' : Nat} (hl : l ≤ l') (hb : b ≤ b') : ∀ {h h' : Nat} {d : PyData}, h ≤ h' → Ok l b h d → Ok l' b' h' d
  | _, _, .none, _, _ => by simp [Ok]
  | _, _, .bool _, _, _ => by simp [Ok]
  | _, _, .int i, _, o => by simp [Ok] at o ⊢; omega
  | _, _, .str s, _, o => by simpa [Ok] using o
  | 0, _, .list ds, _, o => by simp [Ok] at o
  | 0, _, .tuple ds, _, o => by simp [Ok] at o
  | 0, _, .dict _, _, o => by simp [Ok] at o
  | _ + 1, _, .dict _, _, o => by simp [Ok] at o
  | h + 1, 0, .list ds, e, _ => by omega
  | h + 1, 0, .tuple ds, e, _ => by omega
  | h + 1, h' + 1, .list ds, e, o => by
    simp [Ok] at o ⊢
    exact ⟨by omega, fun x m => Ok.mono hl hb (by omega) (o.2 x m)⟩
  | h + 1, h' + 1, .tuple ds, e, o => by
    simp [Ok] at o ⊢
    exact ⟨by omega, fun x m => Ok.mono hl hb (by omega) (o.2 x m)⟩
theorem depthAll_le {n : Nat} : ∀ {ds : List PyData}, (∀ x ∈ ds, PyData.depth x ≤ n) → PyData.depthAll ds ≤ n
  | [], _ => by simp [PyData.depthAll]
  | d :: ds, h => by
    simp only [PyData.depthAll]
    exact Nat.max_le.2 ⟨h d (by simp), depthAll_le fun x m => h x (by simp [m])⟩
theorem canLayAll_of {ds : List PyData} (h : ∀ x ∈ ds, PyData.canLay0 x = true) : PyData.canLayAll0 ds = true := by
  induction ds with
  | nil => simp [PyData.canLayAll0]
  | cons d ds ih => simp only [PyData.canLayAll0, h d (by simp), ih fun x m => h x (by simp [m]), Bool.and_self]
theorem showAll_of {ds : List PyData} (h : ∀ x ∈ ds, PyData.showable x = true) : PyData.showableAll ds = true := by
  induction ds with
  | nil => simp [PyData.showableAll]
  | cons d ds ih => simp only [PyData.showableAll, h d (by simp), ih fun x m => h x (by simp [m]), Bool.and_self]
theorem Ok.depth {l b : Nat} : ∀ {h : Nat} {d : PyData}, Ok l b h d → PyData.depth d ≤ h
  | _, .none, _ => by simp [PyData.depth]
  | _, .bool _, _ => by simp [PyData.depth]
  | _, .int i, _ => by simp [PyData.depth]
  | _, .str s, _ => by simp [PyData.depth]
  | 0, .list ds, o => by simp [Ok] at o
  | 0, .tuple ds, o => by simp [Ok] at o
  | 0, .dict _, o => by simp [Ok] at o
  | _ + 1, .dict _, o => by simp [Ok] at o
  | h + 1, .list ds, o => by simp [Ok] at o; simp only [PyData.depth]; have := depthAll_le fun x m => (o.2 x m).depth; omega
  | h + 1, .tuple ds, o => by simp [Ok] at o; simp only [PyData.depth]; have := depthAll_le fun x m => (o.2 x m).depth; omega
theorem Ok.lay {l b : Nat} : ∀ {h : Nat} {d : PyData}, Ok l b h d → PyData.canLay0 d = true
  | _, .none, _ => by simp [PyData.canLay0]
  | _, .bool _, _ => by simp [PyData.canLay0]
  | _, .int i, _ => by simp [PyData.canLay0]
  | _, .str s, o => by simp [Ok] at o; simp [PyData.canLay0, o.1]
  | 0, .list ds, o => by simp [Ok] at o
  | 0, .tuple ds, o => by simp [Ok] at o
  | 0, .dict _, o => by simp [Ok] at o
  | _ + 1, .dict _, o => by simp [Ok] at o
  | h + 1, .list ds, o => by simp [Ok] at o; simp only [PyData.canLay0]; exact canLayAll_of fun x m => (o.2 x m).lay
  | h + 1, .tuple ds, o => by simp [Ok] at o; simp only [PyData.canLay0]; exact canLayAll_of fun x m => (o.2 x m).lay
theorem Ok.show {l b : Nat} (hb : b ≤ 10 ^ 50) : ∀ {h : Nat} {d : PyData}, Ok l b h d → PyData.showable d = true
  | _, .none, _ => by simp [PyData.showable]
  | _, .bool _, _ => by simp [PyData.showable]
  | _, .int i, o => by
    simp only [Ok] at o
    simp only [PyData.showable, decide_eq_true_eq]
    by_cases z : i.natAbs = 0
    · rw [z]; decide
    · exact (Nat.log2_lt z).2 (Nat.lt_of_lt_of_le (Nat.lt_of_lt_of_le o hb) (Nat.le_trans (show 10 ^ 50 ≤ 2 ^ 200 by decide) (Nat.pow_le_pow_right (by decide) (by decide))))
  | _, .str s, o => by simp [PyData.showable]
  | 0, .list ds, o => by simp [Ok] at o
  | 0, .tuple ds, o => by simp [Ok] at o
  | 0, .dict _, o => by simp [Ok] at o
  | _ + 1, .dict _, o => by simp [Ok] at o
  | h + 1, .list ds, o => by simp [Ok] at o; simp only [PyData.showable]; exact showAll_of fun x m => (o.2 x m).show hb
  | h + 1, .tuple ds, o => by simp [Ok] at o; simp only [PyData.showable]; exact showAll_of fun x m => (o.2 x m).show hb
theorem Ok.shaped {l b h : Nat} {d : PyData} (o : Ok l b h d) (hh : h ≤ 60) : SeqAt.shaped d = true := by
  have := o.depth
  simp only [SeqAt.shaped, o.lay, Bool.true_and, decide_eq_true_eq]; omega
theorem reprChar_len (q c : Nat) (h : c < 0x110000) : (Builtin.Str.reprChar q c).length ≤ 10 := by
  have hd : (Nat.toDigits 16 c).length ≤ 8 := (Nat.length_toDigits_le_iff (by decide) (by decide)).2 (by omega)
  unfold Builtin.Str.reprChar
  repeat' split
  all_goals simp
  all_goals omega
theorem reprText_len (x : Str) (h : PyData.strOk x = true) : (reprText x).length ≤ 10 * x.length + 2 := by
  rw [← reprLen_eq]
  have h' : ∀ c ∈ x.cps.toList, c < 0x110000 := by
    intro c m
    simp only [PyData.strOk] at h
    rw [← Array.all_toList, List.all_eq_true] at h
    simpa using h c m
  rw [← Array.foldl_toList]
  show _ ≤ 10 * x.cps.size + 2
  rw [← Array.length_toList]
  generalize reprQuote x = q
  revert h'
  generalize x.cps.toList = l
  have key : ∀ (l : List Nat) (a : Nat), (∀ c ∈ l, c < 0x110000) → l.foldl (fun n c => n + (Builtin.Str.reprChar q c).length) a ≤ 10 * l.length + a := by
    intro l
    induction l with
    | nil => intro a _; simp
    | cons c r ih =>
      intro a h
      have h1 := ih (a + (Builtin.Str.reprChar q c).length) fun c m => h c (by simp [m])
      have h2 := reprChar_len q c (h c (by simp))
      simp only [List.foldl_cons, List.length_cons]
      omega
  exact fun h' => key l 2 h'
theorem listText_len (ts : List Str) : (listText ts).length ≤ piled ts + 2 := by
  unfold listText
  rw [strLen_append]
  have e1 : (("]" : String) : Str).length = 1 := rfl
  have e2 : (("[" : String) : Str).length = 1 := rfl
  rw [e1]
  cases ts with
  | nil => show (("[" : String) : Str).length + 1 ≤ _; rw [e2]; omega
  | cons t r =>
    have : textFrom 0 "[" (t :: r) = textFrom 1 (("[" : String) ++ ((if 0 > 0 then ", " else "" : String) : Str) ++ t) r := rfl
    rw [this, textFrom_length_pos r 1 _ (by decide), strLen_append, strLen_append, e2, piled_cons]
    have e3 : (((if 0 > 0 then ", " else "" : String)) : Str).length = 0 := rfl
    rw [e3]; omega
theorem tupleText_len (ts : List Str) : (tupleText ts).length ≤ piled ts + 3 := by
  unfold tupleText
  rw [strLen_append, strLen_append]
  have e1 : (("(" : String) : Str).length = 1 := rfl
  have e3 : (((if ts.length == 1 then ",)" else ")" : String) : Str)).length ≤ 2 := by split <;> decide
  rw [e1]
  by_cases h : ts = []
  · subst h
    have e4 : (Str.join ", " ([] : List Str)).length = 0 := rfl
    rw [e4]; simp [piled_nil] at *; omega
  · have := join_length_add ts h; omega
theorem piled_shown {n : Nat} : ∀ {ds : List PyData}, (∀ x ∈ ds, (PyData.shown x).length ≤ sz x) → piled (PyData.shownAll ds) ≤ szA ds
  | [], _ => by simp [PyData.shownAll, piled_nil]
  | d :: ds, h => by
    simp only [PyData.shownAll]
    rw [piled_cons, szA_cons]
    have := h d (by simp)
    have := piled_shown (n := n) (ds := ds) fun x m => h x (by simp [m])
    omega
theorem Ok.text {l b : Nat} (hb : b ≤ 10 ^ 50) : ∀ {h : Nat} {d : PyData}, Ok l b h d → (PyData.shown d).length ≤ sz d
  | _, .none, _ => by simp only [PyData.shown, sz]; decide
  | _, .bool t, _ => by simp only [PyData.shown, sz]; cases t <;> decide
  | _, .int i, o => by
    simp only [Ok] at o
    simp only [PyData.shown, sz]
    have := int_text_length_le10 (a := i) (k := 50) (by decide) (by omega)
    have e : (Str.ofString (toString i)).length = (toString i).length := PySem.ofString_length _
    rw [e]; omega
  | _, .str s, o => by
    simp only [Ok] at o
    simp only [PyData.shown, sz]
    have := reprText_len s o.1; omega
  | 0, .list ds, o => by simp [Ok] at o
  | 0, .tuple ds, o => by simp [Ok] at o
  | 0, .dict _, o => by simp [Ok] at o
  | _ + 1, .dict _, o => by simp [Ok] at o
  | h + 1, .list ds, o => by
    simp [Ok] at o; simp only [PyData.shown, sz]
    have h1 := listText_len (PyData.shownAll ds)
    have h2 := piled_shown (n := 0) fun x m => (o.2 x m).text hb
    omega
  | h + 1, .tuple ds, o => by
    simp [Ok] at o; simp only [PyData.shown, sz]
    have h1 := tupleText_len (PyData.shownAll ds)
    have h2 := piled_shown (n := 0) fun x m => (o.2 x m).text hb
    omega
theorem Ok.repr {l b h : Nat} {d : PyData} (o : Ok l b h d) (hb : b ≤ 10 ^ 50) (hh : h ≤ 60) (hz : sz d ≤ 10000000) : okRepr d = true := by
  have h1 := o.depth
  have h2 := o.text hb
  have h3 : sizeLine = 16777216 := rfl
  have h4 := o.show hb
  simp only [okRepr, h4, PyData.hasDict_of_canLay d o.lay, Bool.not_false, Bool.true_and, Bool.and_eq_true, decide_eq_true_eq]
  omega
end Rf

namespace Rf
open PySem PySem.Spec PyProof.Rows L2
def asc : List Int → Bool
  | x :: y :: r => decide (x < y) && asc (y :: r)
  | _ => true
theorem intsD_map (l : List Int) : intsD (l.map .int) = some l := by
  induction l with
  | nil => rfl
  | cons x l ih => simp [intsD, ih]
theorem boolsD_map {α : Type} (f : α → Bool) (l : List α) : boolsD (l.map fun x => .bool (f x)) = some (l.map f) := by
  induction l with
  | nil => rfl
  | cons x l ih => simp [boolsD, ih]
theorem shaped_ints (l : List Int) : SeqAt.shaped (.list (l.map .int)) = true := by
  have h : Ok l.length ((l.map Int.natAbs).sum + 1) 1 (.list (l.map .int)) := by
    refine ⟨by simp, fun x m => ?_⟩
    obtain ⟨i, hi, rfl⟩ := List.mem_map.1 m
    show i.natAbs < _
    have : i.natAbs ≤ (l.map Int.natAbs).sum := by
      clear m
      induction l with
      | nil => simp at hi
      | cons y l ih =>
        rcases List.mem_cons.1 hi with h | h
        · subst h; simp
        · have := ih h; simp; omega
    omega
  exact h.shaped (by omega)
theorem kb_int_int : kitB "int" "int" = some true := by decide +kernel
theorem kb_bool_int : kitB "bool" "int" = some true := by decide +kernel
theorem kb_none_int : kitB "NoneType" "int" = some false := by decide +kernel
theorem kb_str_int : kitB "str" "int" = some false := by decide +kernel
theorem kb_list_int : kitB "list" "int" = some false := by decide +kernel
theorem kb_tuple_int : kitB "tuple" "int" = some false := by decide +kernel
theorem kb_int_bool : kitB "int" "bool" = some false := by decide +kernel
theorem kb_bool_bool : kitB "bool" "bool" = some true := by decide +kernel
theorem kb_none_bool : kitB "NoneType" "bool" = some false := by decide +kernel
theorem kb_str_bool : kitB "str" "bool" = some false := by decide +kernel
theorem kb_list_bool : kitB "list" "bool" = some false := by decide +kernel
theorem kb_tuple_bool : kitB "tuple" "bool" = some false := by decide +kernel
theorem kb_int_list : kitB "int" "list" = some false := by decide +kernel
theorem kb_bool_list : kitB "bool" "list" = some false := by decide +kernel
theorem kb_none_list : kitB "NoneType" "list" = some false := by decide +kernel
theorem kb_str_list : kitB "str" "list" = some false := by decide +kernel
theorem kb_list_list : kitB "list" "list" = some true := by decide +kernel
theorem kb_tuple_list : kitB "tuple" "list" = some false := by decide +kernel
theorem kb_int_tuple : kitB "int" "tuple" = some false := by decide +kernel
theorem kb_bool_tuple : kitB "bool" "tuple" = some false := by decide +kernel
theorem kb_none_tuple : kitB "NoneType" "tuple" = some false := by decide +kernel
theorem kb_str_tuple : kitB "str" "tuple" = some false := by decide +kernel
theorem kb_list_tuple : kitB "list" "tuple" = some false := by decide +kernel
theorem kb_tuple_tuple : kitB "tuple" "tuple" = some true := by decide +kernel
theorem kb_int_str : kitB "int" "str" = some false := by decide +kernel
theorem kb_bool_str : kitB "bool" "str" = some false := by decide +kernel
theorem kb_none_str : kitB "NoneType" "str" = some false := by decide +kernel
theorem kb_str_str : kitB "str" "str" = some true := by decide +kernel
theorem kb_list_str : kitB "list" "str" = some false := by decide +kernel
theorem kb_tuple_str : kitB "tuple" "str" = some false := by decide +kernel
def plainD : PyData → Bool
  | .dict _ => false
  | _ => true
theorem Ok.plain {l b h : Nat} {d : PyData} (o : Ok l b h d) : plainD d = true := by
  cases d with
  | dict _ => cases h <;> simp [Ok] at o
  | _ => rfl
theorem Yb : isAny .none ["int"] = some false := by simp only [isAny, isTy, kb_none_int]
theorem Yc : isAny .none ["bool"] = some false := by simp only [isAny, isTy, kb_none_bool]
theorem Yd : isAny .none ["list"] = some false := by simp only [isAny, isTy, kb_none_list]
theorem Ye : isAny .none ["tuple"] = some false := by simp only [isAny, isTy, kb_none_tuple]
theorem Yf : isAny .none ["str"] = some false := by simp only [isAny, isTy, kb_none_str]
theorem Yg : isAny .none ["list", "tuple"] = some false := by simp only [isAny, isTy, kb_none_list, kb_none_tuple]
theorem Yh (b : Bool) : isAny (.bool b) ["int"] = some true := by simp only [isAny, isTy, kb_bool_int]
theorem Yi (b : Bool) : isAny (.bool b) ["bool"] = some true := by simp only [isAny, isTy, kb_bool_bool]
theorem Yj (b : Bool) : isAny (.bool b) ["list"] = some false := by simp only [isAny, isTy, kb_bool_list]
theorem Yk (b : Bool) : isAny (.bool b) ["tuple"] = some false := by simp only [isAny, isTy, kb_bool_tuple]
theorem Yl (b : Bool) : isAny (.bool b) ["str"] = some false := by simp only [isAny, isTy, kb_bool_str]
theorem Ym (b : Bool) : isAny (.bool b) ["list", "tuple"] = some false := by simp only [isAny, isTy, kb_bool_list, kb_bool_tuple]
theorem Yn (i : Int) : isAny (.int i) ["int"] = some true := by simp only [isAny, isTy, kb_int_int]
theorem Yo (i : Int) : isAny (.int i) ["bool"] = some false := by simp only [isAny, isTy, kb_int_bool]
theorem Yp (i : Int) : isAny (.int i) ["list"] = some false := by simp only [isAny, isTy, kb_int_list]
theorem Yq (i : Int) : isAny (.int i) ["tuple"] = some false := by simp only [isAny, isTy, kb_int_tuple]
theorem Yr (i : Int) : isAny (.int i) ["str"] = some false := by simp only [isAny, isTy, kb_int_str]
theorem Ys (i : Int) : isAny (.int i) ["list", "tuple"] = some false := by simp only [isAny, isTy, kb_int_list, kb_int_tuple]
theorem Yt (s : Str) : isAny (.str s) ["int"] = some false := by simp only [isAny, isTy, kb_str_int]
theorem Yu (s : Str) : isAny (.str s) ["bool"] = some false := by simp only [isAny, isTy, kb_str_bool]
theorem Yv (s : Str) : isAny (.str s) ["list"] = some false := by simp only [isAny, isTy, kb_str_list]
theorem Yw (s : Str) : isAny (.str s) ["tuple"] = some false := by simp only [isAny, isTy, kb_str_tuple]
theorem Yx (s : Str) : isAny (.str s) ["str"] = some true := by simp only [isAny, isTy, kb_str_str]
theorem Yy (s : Str) : isAny (.str s) ["list", "tuple"] = some false := by simp only [isAny, isTy, kb_str_list, kb_str_tuple]
theorem Yz (xs : List PyData) : isAny (.list xs) ["int"] = some false := by simp only [isAny, isTy, kb_list_int]
theorem YA (xs : List PyData) : isAny (.list xs) ["bool"] = some false := by simp only [isAny, isTy, kb_list_bool]
theorem YB (xs : List PyData) : isAny (.list xs) ["list"] = some true := by simp only [isAny, isTy, kb_list_list]
theorem YC (xs : List PyData) : isAny (.list xs) ["tuple"] = some false := by simp only [isAny, isTy, kb_list_tuple]
theorem YD (xs : List PyData) : isAny (.list xs) ["str"] = some false := by simp only [isAny, isTy, kb_list_str]
theorem YE (xs : List PyData) : isAny (.list xs) ["list", "tuple"] = some true := by simp only [isAny, isTy, kb_list_list, kb_list_tuple]
theorem YF (xs : List PyData) : isAny (.tuple xs) ["int"] = some false := by simp only [isAny, isTy, kb_tuple_int]
theorem YG (xs : List PyData) : isAny (.tuple xs) ["bool"] = some false := by simp only [isAny, isTy, kb_tuple_bool]
theorem YH (xs : List PyData) : isAny (.tuple xs) ["list"] = some false := by simp only [isAny, isTy, kb_tuple_list]
theorem YI (xs : List PyData) : isAny (.tuple xs) ["tuple"] = some true := by simp only [isAny, isTy, kb_tuple_tuple]
theorem YJ (xs : List PyData) : isAny (.tuple xs) ["str"] = some false := by simp only [isAny, isTy, kb_tuple_str]
theorem YK (xs : List PyData) : isAny (.tuple xs) ["list", "tuple"] = some true := by simp only [isAny, isTy, kb_tuple_list, kb_tuple_tuple]
end Rf

namespace Rf
open PySem PySem.Spec PyProof.Rows L2
theorem Q3 (i : Nat) (fm : Fm) : mVar i fm = (match fm[i]? with
  | some (some (.dat d)) => some (.dat d, fm)
  | some (some (.own _)) => some (.bor i, fm)
  | _ => none) := rfl
theorem Qd (d : PyData) (fm : Fm) : mLit d fm = some (.dat d, fm) := rfl
theorem Qe (f : F2) (ma mb : ME) (fm : Fm) : m2 f ma mb fm = (match ma fm with
  | some (va, fm1) => match mb fm1 with
    | some (vb, fm2) => f va vb fm2
    | none => none
  | none => none) := rfl
theorem Qf (m : ME) (fm : Fm) : mB m fm = (match m fm with
  | some (.dat (.bool b), fm1) => some (b, fm1)
  | _ => none) := rfl
theorem Qg (m n : MT) (fm : Fm) : mAndT m n fm = (match m fm with
  | some (true, fm1) => n fm1
  | some (false, fm1) => some (false, fm1)
  | none => none) := rfl
theorem Qh (m n : MT) (fm : Fm) : mOrT m n fm = (match m fm with
  | some (false, fm1) => n fm1
  | some (true, fm1) => some (true, fm1)
  | none => none) := rfl
theorem Qi (m : MT) (fm : Fm) : mNotT m fm = (match m fm with
  | some (k, fm1) => some (!k, fm1)
  | none => none) := rfl
theorem Qj (ma mb : ME) (fm : Fm) : mAndV ma mb fm = (match ma fm with
  | some (.dat (.bool true), fm1) => mb fm1
  | some (.dat (.bool false), fm1) => some (.dat (.bool false), fm1)
  | _ => none) := rfl
theorem Qk (ma mb : ME) (fm : Fm) : mOrV ma mb fm = (match ma fm with
  | some (.dat (.bool false), fm1) => mb fm1
  | some (.dat (.bool true), fm1) => some (.dat (.bool true), fm1)
  | _ => none) := rfl
theorem Ql (ma : ME) (fm : Fm) : mNotV ma fm = (match ma fm with
  | some (.dat (.bool k), fm1) => some (.dat (.bool (!k)), fm1)
  | _ => none) := rfl
theorem Qm (mc : MT) (ma mb : ME) (fm : Fm) : mIfE mc ma mb fm = (match mc fm with
  | some (true, fm1) => ma fm1
  | some (false, fm1) => mb fm1
  | none => none) := rfl
theorem Qn (fm : Fm) : mNil  fm = some ([], fm) := rfl
theorem Qo (ma : ME) (mr : MA) (fm : Fm) : mCons ma mr fm = (match ma fm with
  | some (v, fm1) => match mr fm1 with
    | some (vs, fm2) => some (v :: vs, fm2)
    | none => none
  | none => none) := rfl
theorem Qp (mk : List PyData → SV) (m : MA) (fm : Fm) : mDisp mk m fm = (match m fm with
  | some (vs, fm1) => match frzAll vs fm1 with
    | some (ds, fm2) => if ds.length ≤ sizeLine then some (mk ds, fm2) else none
    | none => none
  | none => none) := rfl
theorem Qq (i : Nat) (d : PyData) (fm : Fm) : gSet i d fm = some (fm.set i (some (.dat d))) := rfl
theorem Qr (ds : List PyData) (fm : Fm) : gsNil  ds fm = (match ds with
  | [] => some fm
  | _ => none) := rfl
theorem Qs (g : MG) (r : MGs) (ds : List PyData) (fm : Fm) : gsCons g r ds fm = (match ds with
  | d :: ds => match g d fm with
    | some fm1 => r ds fm1
    | none => none
  | [] => none) := rfl
theorem Qt (n : Nat) (r : MGs) (d : PyData) (fm : Fm) : gTupD n r d fm = (match d with
  | .tuple ds => if ds.length = n then r ds fm else none
  | .list ds => if ds.length = n then r ds fm else none
  | _ => none) := rfl
theorem Qu (i : Nat) (m : ME) (fm : Fm) : mSet i m fm = (match m fm with
  | some (.thr x, fm1) => some (.ex x, fm1)
  | some (v, fm1) => match sto i v fm1 with
    | some fm2 => some (.nx, fm2)
    | none => none
  | none => none) := rfl
theorem Qv (g : MG) (m : ME) (fm : Fm) : mAsg g m fm = (match m fm with
  | some (.thr x, fm1) => some (.ex x, fm1)
  | some (v, fm1) => match frz v fm1 with
    | some (d, fm2) => match g d fm2 with
      | some fm3 => some (.nx, fm3)
      | none => none
    | none => none
  | none => none) := rfl
theorem Qw (is : List Nat) (m : MA) (fm : Fm) : mPar is m fm = (match m fm with
  | some (vs, fm1) => match resAll vs fm1 with
    | some (ws, fm2) => match stoAll is ws fm2 with
      | some fm3 => some (.nx, fm3)
      | none => none
    | none => none
  | none => none) := rfl
theorem Qx (m : ME) (fm : Fm) : mExpr m fm = (match m fm with
  | some (.thr x, fm1) => some (.ex x, fm1)
  | some (_, fm1) => some (.nx, fm1)
  | none => none) := rfl
theorem Q7 (m : ME) (fm : Fm) : mRet m fm = (match m fm with
  | some (.thr x, fm1) => some (.ex x, fm1)
  | some (v, fm1) => some (.rt v, fm1)
  | none => none) := rfl
theorem Qy (fm : Fm) : mRetN  fm = some (.rt (.dat .none), fm) := rfl
theorem Qz (fm : Fm) : mNext  fm = some (.nx, fm) := rfl
theorem QA (fm : Fm) : mBreak  fm = some (.bk, fm) := rfl
theorem QB (fm : Fm) : mCont  fm = some (.ct, fm) := rfl
theorem Q8 (m n : MS) (fm : Fm) : mSeq m n fm = (match m fm with
  | some (.nx, fm1) => n fm1
  | r => r) := rfl
theorem Q4 (c : MT) (m n : MS) (fm : Fm) : mIf c m n fm = (match c fm with
  | some (true, fm1) => m fm1
  | some (false, fm1) => n fm1
  | none => none) := rfl
theorem QC (m : ME) (fm : Fm) : iSeq m fm = (match m fm with
  | some (v, fm1) => match frz v fm1 with
    | some (.list ds, fm2) => some (ds, fm2)
    | some (.tuple ds, fm2) => some (ds, fm2)
    | _ => none
  | none => none) := rfl
theorem QD (m : MA) (fm : Fm) : iRan m fm = (match m fm with
  | some ([.dat (.int j)], fm1) => if -(2 ^ 62) ≤ j ∧ j < 2 ^ 62 then some (intsFrom 0 j.toNat, fm1) else none
  | _ => none) := rfl
theorem QE (m : MA) (fm : Fm) : iRan2 m fm = (match m fm with
  | some ([.dat (.int i), .dat (.int j)], fm1) => if (-(2 ^ 62) ≤ i ∧ i < 2 ^ 62) ∧ -(2 ^ 62) ≤ j ∧ j < 2 ^ 62 then some (intsFrom i (j - i).toNat, fm1) else none
  | _ => none) := rfl
theorem QF (m : MA) (fm : Fm) : iEnm m fm = (match m fm with
  | some ([v], fm1) => match frz v fm1 with
    | some (.list ds, fm2) => some (enum ds, fm2)
    | some (.tuple ds, fm2) => some (enum ds, fm2)
    | _ => none
  | _ => none) := rfl
theorem QG (m : MA) (fm : Fm) : iZp0 m fm = (match m fm with
  | some (vs, fm1) => match frzAll vs fm1 with
    | some ([.list ds, .list es], fm2) => some (zip2 ds es, fm2)
    | some ([.tuple ds, .tuple es], fm2) => some (zip2 ds es, fm2)
    | _ => none
  | _ => none) := rfl
theorem Q9 (mi : MI) (g : MG) (m : MS) (fm : Fm) : mFor mi g m fm = (match mi fm with
  | some (ds, fm1) => loopM g m ds fm1
  | none => none) := rfl
theorem QH (n : Nat) (c : MT) (m : MS) (z0 : Fm) : mWhile n c m z0 = (whileM c m n) z0 := rfl
theorem QI (f : Dm) (ma : MA) (fm : Fm) : mCall f ma fm = (match ma fm with
  | none => none
  | some (vs, fm1) => match argsOf vs fm1 with
    | none => none
    | some as => if (bors vs).Nodup then (match f as with
      | some (.bor _, _) => none
      | some (.thr _, _) => none
      | some (r, outs) => some (r, wback vs outs fm1)
      | none => none) else none) := rfl
theorem QJ (f : Dm) (ma : MA) (fm : Fm) : mCallX f ma fm = (match ma fm with
  | none => none
  | some (vs, fm1) => match argsOf vs fm1 with
    | none => none
    | some as => if (bors vs).Nodup then (match f as with
      | some (.bor _, _) => none
      | some (r, outs) => some (r, wback vs outs fm1)
      | none => none) else none) := rfl
theorem Qa (n N : Nat) (ro : List Nat) (m : MS) (as : List S0) : mkD n N ro m as = if as.length = n then (match m (as.map some ++ List.replicate (N - n) none) with
    | some (.rt v, fm1) => match retv as v fm1 with
      | some (r, fm2) => match outsFrom ro fm2 0 as with
        | some outs => some (r, outs)
        | none => none
      | none => none
    | some (.nx, fm1) => match outsFrom ro fm1 0 as with
      | some outs => some (.dat .none, outs)
      | none => none
    | some (.ex x, fm1) => match outsFrom ro fm1 0 as with
      | some outs => some (.thr x, outs)
      | none => none
    | _ => none) else none := rfl
theorem YV (n : Nat) (mi : MI) (g : MG) (mt : MT) (me : ME) (vs : List Nat) (fm : Fm) : mLc n mi g mt me vs fm = (match mi fm with
  | none => none
  | some (ds, fm1) => if fm.length ≤ n then (match compM g mt me vs ds (wipeF fm1 vs) [] with
    | none => none
    | some (acc, fm2) => match unwipe fm1 fm2 vs with
      | none => none
      | some fm3 => some (.fre (.lst acc), fm3)) else none) := rfl
theorem QK (C : Int → Int → Bool) (g : Int → Int → PyData) (va : SV) (vb : SV) (fm : Fm) : fI C g va vb fm = (match peek va fm, peek vb fm with
  | some (.int i), some (.int j) => if C i j then some (.dat (g i j), fm) else none
  | _, _ => none) := rfl
theorem QL (z0 : SV) (z1 : SV) (z2 : Fm) : fAdd  z0 z1 z2 = (fI cY fun i j => .int (i + j)) z0 z1 z2 := rfl
theorem QM (z0 : SV) (z1 : SV) (z2 : Fm) : fSub  z0 z1 z2 = (fI cY fun i j => .int (i - j)) z0 z1 z2 := rfl
theorem QN (z0 : SV) (z1 : SV) (z2 : Fm) : fMul  z0 z1 z2 = (fI cMul fun i j => .int (i * j)) z0 z1 z2 := rfl
theorem QO (z0 : SV) (z1 : SV) (z2 : Fm) : fMod  z0 z1 z2 = (fI cMod fun i j => .int (i % j)) z0 z1 z2 := rfl
theorem QP (z0 : SV) (z1 : SV) (z2 : Fm) : fDiv  z0 z1 z2 = (fI cDiv fun i j => .int (i / j)) z0 z1 z2 := rfl
theorem QQ (z0 : SV) (z1 : SV) (z2 : Fm) : fPow  z0 z1 z2 = (fI cPow fun i j => .int (i ^ j.toNat)) z0 z1 z2 := rfl
theorem QR (z0 : SV) (z1 : SV) (z2 : Fm) : fLt  z0 z1 z2 = (fI cY fun i j => .bool (decide (i < j))) z0 z1 z2 := rfl
theorem QS (z0 : SV) (z1 : SV) (z2 : Fm) : fLe  z0 z1 z2 = (fI cY fun i j => .bool (decide (i ≤ j))) z0 z1 z2 := rfl
theorem QT (z0 : SV) (z1 : SV) (z2 : Fm) : fGt  z0 z1 z2 = (fI cY fun i j => .bool (decide (i > j))) z0 z1 z2 := rfl
theorem QU (z0 : SV) (z1 : SV) (z2 : Fm) : fGe  z0 z1 z2 = (fI cY fun i j => .bool (decide (i ≥ j))) z0 z1 z2 := rfl
theorem QV (va : SV) (vb : SV) (fm : Fm) : fIsN  va vb fm = (match peek va fm, peek vb fm with
  | some d, some .none => some (.dat (.bool (isNone d)), fm)
  | _, _ => none) := rfl
theorem QW (va : SV) (vb : SV) (fm : Fm) : fNotN  va vb fm = (match peek va fm, peek vb fm with
  | some d, some .none => some (.dat (.bool (!isNone d)), fm)
  | _, _ => none) := rfl
theorem QX (va : SV) (vb : SV) (fm : Fm) : fIsB  va vb fm = (match peek va fm, peek vb fm with
  | some (.bool a), some (.bool b) => some (.dat (.bool (decide (a = b))), fm)
  | _, _ => none) := rfl
theorem Q0 (va : SV) (vb : SV) (fm : Fm) : fIx  va vb fm = (match peek va fm, peek vb fm with
  | some (.list ds), some (.int i) => (atI ds i).map fun d => (.dat d, fm)
  | some (.tuple ds), some (.int i) => (atI ds i).map fun d => (.dat d, fm)
  | _, _ => none) := rfl
theorem QY (va : SV) (vb : SV) (fm : Fm) : fAddX  va vb fm = (match peek va fm, peek vb fm with
  | some (.int i), some (.int j) => some (.dat (.int (i + j)), fm)
  | some (.list as), some (.list bs) => if as.length + bs.length ≤ sizeLine then some (.fre (.lst (as ++ bs)), fm) else none
  | some (.tuple as), some (.tuple bs) => if as.length + bs.length ≤ sizeLine then some (.dat (.tuple (as ++ bs)), fm) else none
  | some (.bool b), some (.int j) => some (.dat (.int (b2n b + j)), fm)
  | _, _ => none) := rfl
theorem QZ (va : SV) (vb : SV) (fm : Fm) : fSubX  va vb fm = (match peek va fm, peek vb fm with
  | some (.int i), some (.int j) => some (.dat (.int (i - j)), fm)
  | some (.bool b), some (.int j) => some (.dat (.int (b2n b - j)), fm)
  | some (.int i), some (.bool b) => some (.dat (.int (i - b2n b)), fm)
  | _, _ => none) := rfl
theorem Z0 (va : SV) (vb : SV) (fm : Fm) : fMulX  va vb fm = (match peek va fm, peek vb fm with
  | some (.int i), some (.int j) => if cMul i j then some (.dat (.int (i * j)), fm) else none
  | some (.list _), some (.int k) => fMulL k va fm
  | _, _ => none) := rfl
theorem Z1 (f : F1) (ma : ME) (fm : Fm) : m1 f ma fm = (match ma fm with
  | some (v, fm1) => f v fm1
  | none => none) := rfl
theorem Z2 (va : SV) (fm : Fm) : fNeg  va fm = (match peek va fm with
  | some (.int i) => some (.dat (.int (-i)), fm)
  | _ => none) := rfl
theorem Z3 (f : FA) (ma : MA) (fm : Fm) : mB1 f ma fm = (match ma fm with
  | some (vs, fm1) => f vs fm1
  | none => none) := rfl
theorem Z4 (vs : List SV) (fm : Fm) : fLen  vs fm = (match vs with
  | [v] => match peek v fm with
    | some (.list ds) => some (.dat (.int ds.length), fm)
    | some (.tuple ds) => some (.dat (.int ds.length), fm)
    | _ => none
  | _ => none) := rfl
theorem Z5 (vs : List SV) (fm : Fm) : fAbs  vs fm = (match vs with
  | [v] => match peek v fm with
    | some (.int i) => some (.dat (.int (if i < 0 then -i else i)), fm)
    | _ => none
  | _ => none) := rfl
theorem Z6 (vs : List SV) (fm : Fm) : fInt  vs fm = (match vs with
  | [v] => match peek v fm with
    | some (.int i) => some (.dat (.int i), fm)
    | some (.bool b) => some (.dat (.int (if b then 1 else 0)), fm)
    | _ => none
  | _ => none) := rfl
theorem Z7 (vs : List SV) (fm : Fm) : fMin2  vs fm = (match vs with
  | [v, w] => match peek v fm, peek w fm with
    | some (.int i), some (.int j) => some (.dat (.int (if j < i then j else i)), fm)
    | _, _ => none
  | _ => none) := rfl
theorem Z8 (vs : List SV) (fm : Fm) : fMax2  vs fm = (match vs with
  | [v, w] => match peek v fm, peek w fm with
    | some (.int i), some (.int j) => some (.dat (.int (if j > i then j else i)), fm)
    | _, _ => none
  | _ => none) := rfl
theorem Z9 (vs : List SV) (fm : Fm) : fList  vs fm = (match vs with
  | [v] => match peek v fm with
    | some (.list ds) => some (.fre (.lst ds), fm)
    | some (.tuple ds) => some (.fre (.lst ds), fm)
    | _ => none
  | _ => none) := rfl
theorem Za (vs : List SV) (fm : Fm) : fTuple  vs fm = (match vs with
  | [v] => match peek v fm with
    | some (.list ds) => some (.dat (.tuple ds), fm)
    | some (.tuple ds) => some (.dat (.tuple ds), fm)
    | _ => none
  | _ => none) := rfl
theorem Zb (vs : List SV) (fm : Fm) : fStr  vs fm = (match vs with
  | [v] => match peek v fm with
    | some (.int i) => if i.natAbs.log2 < 1920 then some (.dat (.str (toString i)), fm) else none
    | some (.bool b) => some (.dat (.str (if b then "True" else "False")), fm)
    | _ => none
  | _ => none) := rfl
theorem Zd (T : String) (f : FM) (mo : ME) (ma : MA) (fm : Fm) : mMt T f mo ma fm = (match mo fm with
  | some (o, fm1) => if tyD T o fm1 then (match ma fm1 with
    | some (vs, fm2) => f o vs fm2
    | none => none) else none
  | none => none) := rfl
theorem Ze (T : String) (f : FZ) (mo : ME) (ma : MA) (fm : Fm) : mMtZ T f mo ma fm = (match mo fm with
  | some (o, fm1) => if tyD T o fm1 then (match ma fm1 with
    | some (vs, fm2) => match frzAll vs fm2 with
      | some (ds, fm3) => f o ds fm3
      | none => none
    | none => none) else none
  | none => none) := rfl
theorem Zf (o : SV) (ds : List PyData) (fm : Fm) : fAppend  o ds fm = (match o, ds with
  | .bor i, [d] => match fm[i]? with
    | some (some (.own (.lst xs))) => if xs.length < sizeLine then some (.dat .none, fm.set i (some (.own (.lst (xs ++ [d]))))) else none
    | _ => none
  | _, _ => none) := rfl
theorem Zg (o : SV) (ds : List PyData) (fm : Fm) : fInsert  o ds fm = (match o, ds with
  | .bor i, [.int k, d] => match fm[i]? with
    | some (some (.own (.lst xs))) => if xs.length < sizeLine ∧ 0 ≤ k ∧ k < 2 ^ 63 then some (.dat .none, fm.set i (some (.own (.lst (xs.take k.toNat ++ [d] ++ xs.drop k.toNat))))) else none
    | _ => none
  | _, _ => none) := rfl
theorem Zh (o : SV) (vs : List SV) (fm : Fm) : fExtend  o vs fm = (match o, vs with
  | .bor i, [.fre (.lst es)] => match fm[i]? with
    | some (some (.own (.lst xs))) => if xs.length + es.length ≤ sizeLine then some (.dat .none, fm.set i (some (.own (.lst (xs ++ es))))) else none
    | _ => none
  | _, _ => none) := rfl
theorem Zi (o : SV) (vs : List SV) (fm : Fm) : fPopAt  o vs fm = (match o, vs with
  | .bor i, [w] => match fm[i]?, peek w fm with
    | some (some (.own (.lst xs))), some (.int k) => if -(2 ^ 63) ≤ k ∧ k < 2 ^ 63 then (match seqIndex? k xs.length with
      | some j => match xs[j]? with
        | some d => some (.dat d, fm.set i (some (.own (.lst (xs.eraseIdx j)))))
        | none => none
      | none => none) else none
    | _, _ => none
  | _, _ => none) := rfl
theorem Zj (f f' : F2) (ma mb mc : ME) (fm : Fm) : mChain f f' ma mb mc fm = (match ma fm with
  | some (va, fm1) => match mb fm1 with
    | some (vb, fm2) => match f va vb fm2 with
      | some (.dat (.bool true), fm3) => match mc fm3 with
        | some (vc, fm4) => f' vb vc fm4
        | none => none
      | some (.dat (.bool false), fm3) => some (.dat (.bool false), fm3)
      | _ => none
    | none => none
  | none => none) := rfl
theorem Zk (fm : Fm) : oNone  fm = some (none, fm) := rfl
theorem Zl (m : ME) (fm : Fm) : oSome m fm = (match m fm with
  | some (.dat (.int i), fm1) => some (some i, fm1)
  | _ => none) := rfl
theorem Zm (mo : ME) (ml mh : MO) (fm : Fm) : mSl mo ml mh fm = (match mo fm with
  | some (v, fm1) => match ml fm1 with
    | some (lo, fm2) => match mh fm2 with
      | some (hi, fm3) => match peek v fm3 with
        | some (.list ds) => some (.fre (.lst (cutD ds lo hi)), fm3)
        | some (.tuple ds) => some (.dat (.tuple (cutD ds lo hi)), fm3)
        | _ => none
      | none => none
    | none => none
  | none => none) := rfl
theorem Zn (i : Nat) (mi : ME) (d : PyData) (fm : Fm) : gIx i mi d fm = (match fm[i]? with
  | some (some (.own _)) => match mi fm with
    | some (.dat (.int k), fm1) => match fm1[i]? with
      | some (some (.own (.lst ds))) => match ixN ds.length k with
        | some j => some (fm1.set i (some (.own (.lst (ds.set j d)))))
        | none => none
      | _ => none
    | _ => none
  | _ => none) := rfl
theorem Zo (va : SV) (vb : SV) (fm : Fm) : fInX  va vb fm = (match peek va fm, peek vb fm with
  | some d, some e => match seqD e with
    | some ds => if SeqAt.shaped d && SeqAt.shaped e then some (.dat (.bool (ds.any fun z => PyData.eqv z d)), fm) else none
    | none => none
  | _, _ => none) := rfl
theorem Zp (va : SV) (vb : SV) (fm : Fm) : fNotInX  va vb fm = (match peek va fm, peek vb fm with
  | some d, some e => match seqD e with
    | some ds => if SeqAt.shaped d && SeqAt.shaped e then some (.dat (.bool (!ds.any fun z => PyData.eqv z d)), fm) else none
    | none => none
  | _, _ => none) := rfl
theorem Zq (Ts : List String) (m : ME) (fm : Fm) : mIsi Ts m fm = (match m fm with
  | some (v, fm1) => match peek v fm1 with
    | some d => match isAny d Ts with
      | some b => some (.dat (.bool b), fm1)
      | none => none
    | none => none
  | none => none) := rfl
theorem Zr (va : SV) (vb : SV) (fm : Fm) : fEqX  va vb fm = (match peek va fm, peek vb fm with
  | some (.str a), some (.str b) => some (.dat (.bool (decide (a = b))), fm)
  | some d, some e => if SeqAt.shaped d && SeqAt.shaped e then some (.dat (.bool (PyData.eqv d e)), fm) else none
  | _, _ => none) := rfl
theorem Zs (va : SV) (vb : SV) (fm : Fm) : fNeX  va vb fm = (match peek va fm, peek vb fm with
  | some (.str a), some (.str b) => some (.dat (.bool (!decide (a = b))), fm)
  | some d, some e => if SeqAt.shaped d && SeqAt.shaped e then some (.dat (.bool (!PyData.eqv d e)), fm) else none
  | _, _ => none) := rfl
theorem Zt (vs : List SV) (fm : Fm) : fAll  vs fm = (match vs with
  | [v] => match peek v fm with
    | some (.list ds) => match boolsD ds with
      | some bs => some (.dat (.bool (bs.all id)), fm)
      | none => none
    | _ => none
  | _ => none) := rfl
theorem Zu (vs : List SV) (fm : Fm) : fAny  vs fm = (match vs with
  | [v] => match peek v fm with
    | some (.list ds) => match boolsD ds with
      | some bs => some (.dat (.bool (bs.any id)), fm)
      | none => none
    | _ => none
  | _ => none) := rfl
theorem Zv (vs : List SV) (fm : Fm) : fSum  vs fm = (match vs with
  | [v] => match peek v fm with
    | some (.list ds) => match intsD ds with
      | some bs => some (.dat (.int bs.sum), fm)
      | none => none
    | _ => none
  | _ => none) := rfl
theorem Zw (vs : List SV) (fm : Fm) : fSorted  vs fm = (match vs with
  | [v] => match peek v fm with
    | some (.list ds) => match intsD ds with
      | some bs => some (.fre (.lst ((sortI bs).map .int)), fm)
      | none => none
    | some (.tuple ds) => match intsD ds with
      | some bs => some (.fre (.lst ((sortI bs).map .int)), fm)
      | none => none
    | _ => none
  | _ => none) := rfl
theorem Q5 (g : Int → Int → Int) (vs : List SV) (fm : Fm) : fBest g vs fm = (match vs with
  | [v] => match peek v fm with
    | some d => match seqD d with
      | some ds => match intsD ds with
        | some (n :: ns) => some (.dat (.int (ns.foldl g n)), fm)
        | _ => none
      | none => none
    | none => none
  | _ => none) := rfl
theorem Zx (T : Bool) (o : SV) (vs : List SV) (fm : Fm) : fIdx T o vs fm = (match vs with
  | [w] => match peek o fm, peek w fm with
    | some d, some (.int k) => match d, T with
      | .tuple ds, true => (match intsD ds with
        | some ns => if k ∈ ns then some (.dat (.int (ns.idxOf k : Nat)), fm) else none
        | none => none)
      | .list ds, false => (match intsD ds with
        | some ns => if k ∈ ns then some (.dat (.int (ns.idxOf k : Nat)), fm) else none
        | none => none)
      | _, _ => none
    | _, _ => none
  | _ => none) := rfl
theorem Zy (vs : List SV) (fm : Fm) : fRepr  vs fm = (match vs with
  | [v] => match peek v fm with
    | some d => if okRepr d then some (.dat (.str d.shown), fm) else none
    | none => none
  | _ => none) := rfl
theorem Zz (pm : List Nat) (n : Nat) (m : MA) (fm : Fm) : mPermA pm n m fm = (match m fm with
  | some (vs, fm1) => if vs.length = n ∧ okPm pm n = true then some (permL pm vs, fm1) else none
  | none => none) := rfl
theorem ZA (v : SV) (fm : Fm) : fBack  v fm = (match peek v fm with
  | some (.list ds) => some (.fre (.lst ds.reverse), fm)
  | some (.tuple ds) => some (.dat (.tuple ds.reverse), fm)
  | _ => none) := rfl
theorem ZB (i : Nat) (ml mh : MO) (d : PyData) (fm : Fm) : gSplice i ml mh d fm = (match d with
  | .list es => match fm[i]? with
    | some (some (.own _)) => match ml fm with
      | some (some a, fm1) => match mh fm1 with
        | some (some c, fm2) => match fm2[i]? with
          | some (some (.own (.lst xs))) => if 0 ≤ a ∧ a ≤ c ∧ xs.length + es.length ≤ sizeLine then some (fm2.set i (some (.own (.lst (xs.take a.toNat ++ es ++ xs.drop c.toNat))))) else none
          | _ => none
        | _ => none
      | _ => none
    | _ => none
  | _ => none) := rfl
theorem ZC (m : ME) (fm : Fm) : mSortSet m fm = (match m fm with
  | some (v, fm1) => match peek v fm1 with
    | some (.tuple ds) => match intsD ds with
      | some ns => if ns.length < 64 then some (.fre (.lst ((sortU ns).map .int)), fm1) else none
      | none => none
    | some (.list ds) => match intsD ds with
      | some ns => if ns.length < 64 then some (.fre (.lst ((sortU ns).map .int)), fm1) else none
      | none => none
    | _ => none
  | none => none) := rfl
theorem ZD (va : SV) (vb : SV) (fm : Fm) : fMulY  va vb fm = (match peek va fm, peek vb fm with
  | some (.tuple ds), some (.int k) => if k = 1 then some (.dat (.tuple ds), fm) else if ds ≠ [] ∧ 2 ≤ k ∧ k ≤ 1000 ∧ ds.length ≤ 1000 then some (.dat (.tuple (repD k ds)), fm) else none
  | _, _ => fMulX va vb fm) := rfl
theorem ZE (ma : MA) (fm : Fm) : mTupRan ma fm = (match ma fm with
  | some ([.dat (.int a), .dat (.int b)], fm1) => if 0 ≤ a ∧ a ≤ b ∧ b < 100000 then some (.dat (.tuple (intsFrom a (b - a).toNat)), fm1) else none
  | _ => none) := rfl
theorem ZF (m : MA) (fm : Fm) : mFz m fm = (match m fm with
  | some (vs, fm1) => some (vs.map fzV, fm1)
  | none => none) := rfl
theorem Qb (is : List Nat) (m : MS) (fm : Fm) : mGh is m fm = (match m fm with
  | some (.nx, fm1) => some (.nx, frzL is fm1)
  | r => r) := rfl
theorem ZG (m : MT) (fm : Fm) : mTmp m fm = (match m (fm.map frzO) with
  | some (b, _) => some (b, fm)
  | none => none) := rfl
theorem ZH (fm : Fm) : mNilX  fm = some (.inr [], fm) := rfl
theorem ZI (ma : ME) (mr : MAX) (fm : Fm) : mConsX ma mr fm = (match ma fm with
  | some (.thr x, fm1) => some (.inl x, fm1)
  | some (v, fm1) => match mr fm1 with
    | some (.inr vs, fm2) => some (.inr (v :: vs), fm2)
    | some (.inl x, fm2) => some (.inl x, fm2)
    | none => none
  | none => none) := rfl
theorem ZJ (m : MAX) (fm : Fm) : mLstX m fm = (match m fm with
  | some (.inl x, fm1) => some (.thr x, fm1)
  | some (.inr vs, fm1) => match frzAll vs fm1 with
    | some (ds, fm2) => if ds.length ≤ sizeLine then some (.fre (.lst ds), fm2) else none
    | none => none
  | none => none) := rfl
theorem ZK (m : ME) (fm : Fm) : mLenSet m fm = (match m fm with
  | some (v, fm1) => match peek v fm1 with
    | some d => match seqD d with
      | some ds => match intsD ds with
        | some ns => if ns.length < 64 then some (.dat (.int ((sortU ns).length : Nat)), fm1) else none
        | none => none
      | none => none
    | none => none
  | none => none) := rfl
theorem ZL (m : ME) (fm : Fm) : mMinD m fm = (match m fm with
  | some (v, fm1) => match peek v fm1 with
    | some d => match seqD d with
      | some ds => match intsD ds with
        | some [] => some (.dat .none, fm1)
        | some (n :: ns) => some (.dat (.int (ns.foldl min n)), fm1)
        | none => none
      | none => none
    | none => none
  | none => none) := rfl
theorem ZM (vs : List SV) (fm : Fm) : fMinP  vs fm = (match vs with
  | [v] => match peek v fm with
    | some (.list ds) => match pairsD ds with
      | some (p :: ps) => some (.dat (pD (minI p ps)), fm)
      | _ => none
    | _ => none
  | _ => none) := rfl
theorem Q6 (vs : List SV) (fm : Fm) : fMinX  vs fm = (match fBest min vs fm with
  | some r => some r
  | none => fMinP vs fm) := rfl
theorem ZN (m : ME) (fm : Fm) : mTru m fm = (match m fm with
  | some (.dat (.bool b), fm1) => some (b, fm1)
  | some (v, fm1) => match peek v fm1 with
    | some (.list ds) => some (!ds.isEmpty, fm1)
    | _ => none
  | none => none) := rfl
theorem ZO (m : MA) (fm : Fm) : iZp3 m fm = (match m fm with
  | some (vs, fm1) => match frzAll vs fm1 with
    | some ([d1, d2, d3], fm2) => match seqD d1, seqD d2, seqD d3 with
      | some ds, some es, some fs => some (zip3 ds es fs, fm2)
      | _, _, _ => none
    | _ => none
  | _ => none) := rfl
theorem ZP (m : MA) (fm : Fm) : mDfl m fm = (match m fm with
  | some (vs, fm1) => some (vs ++ [.dat (.tuple [])], fm1)
  | none => none) := rfl
theorem ZQ (i : Nat) (f : F2) (m : ME) (fm : Fm) : mAug i f m fm = (match fm[i]? with
  | some (some (.dat (.int a))) => match m fm with
    | some (vb, fm1) => match f (.dat (.int a)) vb fm1 with
      | some (.dat r, fm2) => some (.nx, fm2.set i (some (.dat r)))
      | _ => none
    | none => none
  | _ => none) := rfl
theorem ZR (i : Nat) (m : ME) (fm : Fm) : mAugL i m fm = (match fm[i]? with
  | some (some (.own (.lst _))) => match m fm with
    | some (.fre (.lst es), fm1) => match fm1[i]? with
      | some (some (.own (.lst xs))) => if xs.length + es.length ≤ sizeLine then some (.nx, fm1.set i (some (.own (.lst (xs ++ es))))) else none
      | _ => none
    | _ => none
  | _ => none) := rfl
theorem ZS (i : Nat) (m : ME) (fm : Fm) : mAugA i m fm = (match mAug i fAdd m fm with
  | some r => some r
  | none => mAugL i m fm) := rfl
theorem ZT (m : MA) (fm : Fm) : iZpN m fm = (match m fm with
  | some (vs, fm1) => match frzAll vs fm1 with
    | some (ds, fm2) => match zipD ds with
      | some es => some (es, fm2)
      | none => none
    | none => none
  | none => none) := rfl
theorem ZU (m : ME) (fm : Fm) : iZpS m fm = (match m fm with
  | some (v, fm1) => match frz v fm1 with
    | some (d, fm2) => match seqD d with
      | some ds => match zipD ds with
        | some es => some (es, fm2)
        | none => none
      | none => none
    | none => none
  | none => none) := rfl
theorem ZV (m : MA) (fm : Fm) : iZp m fm = (match iZp0 m fm with
  | some r => some r
  | none => iZpN m fm) := rfl
theorem ZW (T : Bool) (o : SV) (vs : List SV) (fm : Fm) : fCnt T o vs fm = (match vs with
  | [w] => match peek o fm, peek w fm with
    | some e, some d => match e, T with
      | .tuple ds, true => if okFind ds d then some (.dat (.int ((ds.countP fun y => PyData.eqv y d : Nat) : Int)), fm) else none
      | .list ds, false => if okFind ds d then some (.dat (.int ((ds.countP fun y => PyData.eqv y d : Nat) : Int)), fm) else none
      | _, _ => none
    | _, _ => none
  | _ => none) := rfl
theorem ZX (o : SV) (vs : List SV) (fm : Fm) : fFindL  o vs fm = (match vs with
  | [w] => match peek o fm, peek w fm with
    | some (.list ds), some d => if okFind ds d then (match SeqAt.dataPlace ds d with
      | some j => some (.dat (.int (j : Int)), fm)
      | none => none) else none
    | _, _ => none
  | _ => none) := rfl
theorem ZY (m : ME) (fm : Fm) : mLstRan m fm = (match m fm with
  | some (.dat (.int n), fm1) => if 0 ≤ n ∧ n < 100000 then some (.fre (.lst (intsFrom 0 n.toNat)), fm1) else none
  | _ => none) := rfl
theorem ZZ (nm f : Str) (ma : MA) (fm : Fm) : mRaise nm f ma fm = (match ma fm with
  | some ([v], fm1) => match frz v fm1 with
    | some (d, fm2) => some (.ex ⟨nm, [(f, d)]⟩, fm2)
    | none => none
  | _ => none) := rfl
theorem Y0 (nm : Str) (fm : Fm) : mRaise0 nm fm = some (.ex ⟨nm, []⟩, fm) := rfl
theorem Y1 (nms : List Str) (i j : Nat) (m : MS) (fm : Fm) : mTryC nms i j m fm = (match m fm with
  | some (.ex x, fm1) => if nms.contains x.nm = true then some (.nx, (fm1.set i (some (.own (.exc x.nm x.fs)))).set j none) else none
  | r => r) := rfl
theorem Y2 (nms : List Str) (d : PyData) (m : MS) (fm : Fm) : mTryR nms d m fm = (match m fm with
  | some (.ex x, fm1) => if nms.contains x.nm = true then some (.rt (.dat d), fm1) else none
  | r => r) := rfl
theorem Y3 (f : Str → Option Bool) (m : ME) (fm : Fm) : mIsX f m fm = (match m fm with
  | some (v, fm1) => match excOf v fm1 with
    | some xc => match f xc.nm with
      | some b => some (.dat (.bool b), fm1)
      | none => none
    | none => none
  | none => none) := rfl
theorem Y4 (t : Str → Option Str) (g : Str) (m : ME) (fm : Fm) : mFld t g m fm = (match m fm with
  | some (v, fm1) => match excOf v fm1 with
    | some ⟨nm, [(f, d)]⟩ => if t nm = some f ∧ f = g then some (.dat d, fm1) else none
    | _ => none
  | none => none) := rfl
theorem Y5 (d : DI) (n : Nat) (m : MA) (z0 : Fm) : dA d n m z0 = (if d.df && (n != 0 && n + 1 == d.ps.length) then mDfl m else m) z0 := rfl
theorem Y6 (va : SV) (vb : SV) (fm : Fm) : fIsX  va vb fm = (match peek vb fm with
  | some .none => fIsN va vb fm
  | some (.bool _) => fIsB va vb fm
  | _ => none) := rfl
theorem Y7 (va : SV) (vb : SV) (fm : Fm) : fIsY  va vb fm = (match excOf va fm with
  | some _ => match peek vb fm with
    | some .none => some (.dat (.bool false), fm)
    | _ => none
  | none => fIsX va vb fm) := rfl
theorem Y8 (va : SV) (vb : SV) (fm : Fm) : fNotY  va vb fm = (match excOf va fm with
  | some _ => match peek vb fm with
    | some .none => some (.dat (.bool true), fm)
    | _ => none
  | none => fNotN va vb fm) := rfl
theorem Y9 (b : Bool) (m : MT) (z0 : Fm) : mTmpO b m z0 = (match b with
  | true => mTmp m
  | false => m) z0 := rfl
theorem Ya (is : List Nat) (m : MS) (z0 : Fm) : mGhO is m z0 = (match is with
  | [] => m
  | i :: is => mGh (i :: is) m) z0 := rfl
theorem YM (m : MA) (fm : Fm) : mLst m fm = mDisp (fun ds => .fre (.lst ds)) m fm := rfl
theorem YN (m : MA) (fm : Fm) : mTup m fm = mDisp (fun ds => .dat (.tuple ds)) m fm := rfl
theorem YO (fm : Fm) : mYes fm = some (true, fm) := rfl
theorem mIndex_ap (mo : ME) (ma : MA) (fm : Fm) : mIndex mo ma fm = (match mMt "tuple" (fIdx true) mo ma fm with
  | some r => some r
  | none => match mMt "list" (fIdx false) mo ma fm with
    | some r => some r
    | none => mMt "list" fFindL mo ma fm) := rfl
theorem YL (mo : ME) (ma : MA) (fm : Fm) : mCount mo ma fm = (match mMt "tuple" (fCnt true) mo ma fm with
  | some r => some r
  | none => mMt "list" (fCnt false) mo ma fm) := rfl
theorem Q1 : sizeLine = 16777216 := rfl
theorem Q2 (i : Int) : SeqAt.shaped (.int i) = true := by simp [SeqAt.shaped, PyData.canLay0, PyData.depth]
theorem Qc (i j : Int) : PyData.eqv (.int i) (.int j) = decide (i = j) := by simp only [PyData.eqv]; rfl
theorem YQ (b : Bool) : SeqAt.shaped (.bool b) = true := by simp [SeqAt.shaped, PyData.canLay0, PyData.depth]
theorem YR (a b : Bool) : PyData.eqv (.bool a) (.bool b) = decide (a = b) := by cases a <;> cases b <;> simp [PyData.eqv]
theorem YS : SeqAt.shaped .none = true := by simp [SeqAt.shaped, PyData.canLay0, PyData.depth]
theorem YT : SeqAt.shaped (.tuple []) = true := by simp [SeqAt.shaped, PyData.canLay0, PyData.canLayAll0, PyData.depth, PyData.depthAll]
theorem YU : SeqAt.shaped (.list []) = true := by simp [SeqAt.shaped, PyData.canLay0, PyData.canLayAll0, PyData.depth, PyData.depthAll]
end Rf

namespace Rf
open PySem PySem.Spec PyProof.Rows L2
def B_box : Dm := mkD 2 3 [0, 1]
    (mSeq (mSet 2 (mLit (.int 0)))
    (mSeq (mIf (mB (m2 fLt (mVar 1) (mB1 fLen (mCons (mVar 0) mNil)))) (mSet 2 (m2 fIx (mVar 0) (mVar 1))) mNext)
    (mRet (mLst (mCons (m2 fMulY (mB1 fAbs (mCons (mVar 2) mNil)) (mB1 fInt (mCons (m2 fGe (mB1 fAbs (mCons (mVar 2) mNil)) (m2 fPow (mLit (.int 10)) (mLit (.int 18)))) mNil))) (mCons (m2 fMod (m2 fMulY (m2 fAddX (m2 fAddX (m2 fMod (mVar 2) (mLit (.int 2147483629))) (m2 fMulY (mLit (.int 15511)) (mVar 1))) (mLit (.int 23))) (mLit (.int 40361))) (mLit (.int 2147483563))) (mCons (mLit (.int 0)) mNil)))))))
def B_take (D_take : Dm) : Dm := mkD 2 4 [0, 1]
    (mSeq (mIf (mB (m2 fGt (m2 fIx (mVar 0) (mLit (.int 0))) (mLit (.int 0)))) (mSeq (mSet 3 (m2 fMod (m2 fIx (mVar 0) (mLit (.int 0))) (mVar 1)))
    (mSeq (mAsg (gIx 0 (mLit (.int 0))) (m2 fDiv (m2 fIx (mVar 0) (mLit (.int 0))) (mVar 1)))
    (mRet (mVar 3)))) mNext)
    (mSeq (mIf (mB (m2 fGt (mVar 1) (m2 fPow (mLit (.int 10)) (mLit (.int 7))))) (mRet (m2 fMod (m2 fAddX (mCall D_take (mFz (mCons (mVar 0) (mCons (m2 fPow (mLit (.int 10)) (mLit (.int 7))) mNil)))) (m2 fMulY (m2 fPow (mLit (.int 10)) (mLit (.int 7))) (mCall D_take (mFz (mCons (mVar 0) (mCons (m2 fAddX (m2 fDiv (mVar 1) (m2 fPow (mLit (.int 10)) (mLit (.int 7)))) (mLit (.int 1))) mNil)))))) (mVar 1))) mNext)
    (mSeq (mAsg (gIx 0 (mLit (.int 2))) (m2 fAddX (m2 fIx (mVar 0) (mLit (.int 2))) (mLit (.int 1))))
    (mSeq (mGh [2] (mSet 2 (m2 fMod (m2 fPow (m2 fAddX (m2 fIx (mVar 0) (mLit (.int 1))) (m2 fMulY (mLit (.int 51749)) (m2 fIx (mVar 0) (mLit (.int 2))))) (mLit (.int 3))) (mLit (.int 2147483587)))))
    (mRet (m2 fMod (m2 fDiv (m2 fMod (m2 fAddX (m2 fMulY (mVar 2) (m2 fAddX (m2 fMod (mVar 2) (mLit (.int 30013))) (mLit (.int 11)))) (m2 fMulY (m2 fIx (mVar 0) (mLit (.int 2))) (mLit (.int 6427)))) (mLit (.int 2147483647))) (mLit (.int 32))) (mVar 1)))))))
def B_pick (D_take : Dm) : Dm := mkD 2 2 [0, 1]
    (mRet (m2 fIx (mVar 1) (mCall D_take (mFz (mCons (mVar 0) (mCons (mB1 fLen (mCons (mVar 1) mNil)) mNil))))))
def B_same (D_same : Dm) : Dm := mkD 2 4 [0, 1]
    (mSeq (mIf (mB (mIsi ["list", "tuple"] (mVar 1))) (mSeq (mIf (mOrT (mB (m2 fNeX (mIsi ["list"] (mVar 0)) (mIsi ["list"] (mVar 1)))) (mB (m2 fNeX (mIsi ["tuple"] (mVar 0)) (mIsi ["tuple"] (mVar 1))))) (mRet (mLit (.bool false))) mNext)
    (mRet (mAndV (m2 fEqX (mB1 fLen (mCons (mVar 0) mNil)) (mB1 fLen (mCons (mVar 1) mNil))) (mB1 fAll (mCons (mLc 4 (iZp (mCons (mVar 0) (mCons (mVar 1) mNil))) (gTupD 2 (gsCons (gSet 2) (gsCons (gSet 3) gsNil))) mYes (mCall D_same (mFz (mCons (mVar 2) (mCons (mVar 3) mNil)))) [2, 3]) mNil))))) mNext)
    (mSeq (mIf (mOrT (mB (m2 fIsY (mVar 1) (mLit .none))) (mB (mIsi ["str"] (mVar 1)))) (mRet (mAndV (m2 fEqX (mVar 0) (mVar 1)) (m2 fEqX (mIsi ["str"] (mVar 0)) (mIsi ["str"] (mVar 1))))) mNext)
    (mRet (mAndV (mIsi ["int"] (mVar 0)) (mAndV (m2 fEqX (mIsi ["bool"] (mVar 0)) (mIsi ["bool"] (mVar 1))) (m2 fEqX (mVar 0) (mVar 1)))))))
def B_lists (D_lists : Dm) : Dm := mkD 1 2 [0]
    (mRet (mIfE (mB (mIsi ["list", "tuple"] (mVar 0))) (mLc 2 (iSeq (mVar 0)) (gSet 1) mYes (mCall D_lists (mFz (mCons (mVar 1) mNil))) [1]) (mVar 0)))
def B_shuffled (D_take : Dm) : Dm := mkD 2 4 [0, 1]
    (mSeq (mPar [2, 3] (mCons (mB1 fList (mCons (mVar 1) mNil)) (mCons (mLst mNil) mNil)))
    (mSeq (mWhile 100000 (mB (m2 fNeX (mVar 2) (mLst mNil))) (mExpr (mMtZ "list" fAppend (mVar 3) (mCons (mMt "list" fPopAt (mVar 2) (mCons (mCall D_take (mFz (mCons (mVar 0) (mCons (mB1 fLen (mCons (mVar 2) mNil)) mNil)))) mNil)) mNil))))
    (mRet (mVar 3))))
def B_gauges (D_pick : Dm) (D_take : Dm) : Dm := mkD 2 6 [0, 1]
    (mSeq (mGh [3, 4] (mPar [3, 4, 5] (mCons (mCall D_pick (mFz (mCons (mVar 0) (mCons (mLst (mCons (mLit (.int 1)) (mCons (mLit (.int 1)) (mCons (mLit (.int 3)) (mCons (m2 fPow (mLit (.int 10)) (mLit (.int 7))) mNil))))) mNil)))) (mCons (mCall D_take (mFz (mCons (mVar 0) (mCons (mLit (.int 3)) mNil)))) (mCons (mLst mNil) mNil)))))
    (mSeq (mFor (iRan (mCons (mVar 1) mNil)) (gSet 2) (mSeq (mGh [4] (mSet 4 (m2 fAddX (m2 fAddX (mVar 4) (mLit (.int 1))) (mCall D_take (mFz (mCons (mVar 0) (mCons (mVar 3) mNil)))))))
    (mExpr (mMtZ "list" fAppend (mVar 5) (mCons (mVar 4) mNil)))))
    (mRet (mB1 fTuple (mCons (mVar 5) mNil)))))
def B_span (D_take : Dm) : Dm := mkD 3 9 [0, 1, 2]
    (mSeq (mGh [3, 4] (mPar [3, 4] (mCons (mIndex (mVar 1) (mCons (mVar 2) mNil)) (mCons (mCall D_take (mFz (mCons (mVar 0) (mCons (mLit (.int 5)) mNil)))) mNil))))
    (mSeq (mGh [5, 6] (mPar [5, 6] (mCons (m2 fSubX (mVar 3) (mB1 fMin2 (mCons (mVar 3) (mCons (mVar 4) mNil)))) (mCons (mB1 fMin2 (mCons (m2 fSubX (mB1 fLen (mCons (mVar 1) mNil)) (mLit (.int 1))) (mCons (m2 fAddX (mVar 3) (mCall D_take (mFz (mCons (mVar 0) (mCons (m2 fAddX (mVar 4) (mLit (.int 1))) mNil))))) mNil))) mNil))))
    (mSeq (mPar [7, 8] (mCons (m2 fIx (mVar 1) (m2 fAddX (mCall D_take (mFz (mCons (mVar 0) (mCons (m2 fAddX (m2 fSubX (mVar 3) (mVar 5)) (mLit (.int 1))) mNil)))) (mVar 5))) (mCons (m2 fIx (mVar 1) (mVar 6)) mNil)))
    (mRet (mTup (mCons (m2 fSubX (mVar 7) (mB1 fMin2 (mCons (m2 fSubX (mVar 7) (mLit (.int 1))) (mCons (mCall D_take (mFz (mCons (mVar 0) (mCons (mLit (.int 2)) mNil)))) mNil)))) (mCons (m2 fAddX (mVar 8) (mCall D_take (mFz (mCons (mVar 0) (mCons (mLit (.int 2)) mNil))))) mNil)))))))
def B_plant (D_take : Dm) (D_gauges : Dm) (D_shuffled : Dm) (D_span : Dm) : Dm := mkD 3 7 [0, 1, 2]
    (mSeq (mGh [3] (mSet 3 (m2 fAddX (mLit (.int 1)) (mCall D_take (mFz (mCons (mVar 0) (mCons (mVar 1) mNil)))))))
    (mSeq (mGh [4] (mSet 4 (mCall D_gauges (mFz (mCons (mVar 0) (mCons (mB1 fMin2 (mCons (mVar 2) (mCons (m2 fAddX (mVar 3) (mCall D_take (mFz (mCons (mVar 0) (mCons (m2 fAddX (m2 fSubX (mVar 2) (mVar 3)) (mLit (.int 1))) mNil))))) mNil))) mNil))))))
    (mSeq (mGh [5] (mSet 5 (mB1 fTuple (mCons (mSl (mCall D_shuffled (mFz (mCons (mVar 0) (mCons (mVar 4) mNil)))) oNone (oSome (mVar 3))) mNil))))
    (mRet (mTup (mCons (mTup (mCons (mVar 4) (mCons (mB1 fTuple (mCons (mLc 7 (iSeq (mVar 5)) (gSet 6) mYes (mCall D_span (mFz (mCons (mVar 0) (mCons (mVar 4) (mCons (mVar 6) mNil))))) [6]) mNil)) mNil))) (mCons (mVar 5) mNil)))))))
def B_fits : Dm := mkD 3 3 [0, 1, 2]
    (mRet (mChain fLe fLe (m2 fIx (m2 fIx (m2 fIx (mVar 0) (mLit (.int 1))) (mVar 1)) (mLit (.int 0))) (mVar 2) (m2 fIx (m2 fIx (m2 fIx (mVar 0) (mLit (.int 1))) (mVar 1)) (mLit (.int 1)))))
def B_store : Dm := mkD 2 3 [0, 1]
    (mRet (mLc 3 (iSeq (m2 fIx (mVar 0) (mLit (.int 0)))) (gSet 2) (mB (m2 fNotInX (mVar 2) (mVar 1))) (mVar 2) [2]))
def B_after : Dm := mkD 2 3 [0, 1]
    (mSeq (mSet 2 (mB1 fList (mCons (mVar 0) mNil)))
    (mSeq (mIf (mB (m2 fEqX (m2 fIx (mVar 1) (mLit (.int 0))) (mLit (.str "take")))) (mAsg (gIx 2 (m2 fIx (mVar 1) (mLit (.int 1)))) (m2 fIx (mVar 1) (mLit (.int 2)))) (mAsg (gTupD 2 (gsCons (gIx 2 (m2 fIx (mVar 1) (mLit (.int 1)))) (gsCons (gIx 2 (m2 fIx (mVar 1) (mLit (.int 2)))) gsNil))) (mTup (mCons (m2 fIx (mVar 0) (m2 fIx (mVar 1) (mLit (.int 2)))) (mCons (m2 fIx (mVar 0) (m2 fIx (mVar 1) (mLit (.int 1)))) mNil)))))
    (mRet (mB1 fTuple (mCons (mVar 2) mNil)))))
def B_deals (D_fits : Dm) (D_store : Dm) : Dm := mkD 2 7 [0, 1]
    (mSeq (mGh [4] (mPar [3, 4] (mCons (mLst mNil) (mCons (mB1 fLen (mCons (mVar 1) mNil)) mNil))))
    (mSeq (mFor (iRan (mCons (mVar 4) mNil)) (gSet 2) (mFor (iRan2 (mCons (m2 fAddX (mVar 2) (mLit (.int 1))) (mCons (mVar 4) mNil))) (gSet 5) (mIf (mAndT (mB (mCall D_fits (mFz (mCons (mVar 0) (mCons (mVar 2) (mCons (m2 fIx (mVar 1) (mVar 5)) mNil)))))) (mB (mCall D_fits (mFz (mCons (mVar 0) (mCons (mVar 5) (mCons (m2 fIx (mVar 1) (mVar 2)) mNil))))))) (mExpr (mMtZ "list" fAppend (mVar 3) (mCons (mTup (mCons (mLit (.str "swap")) (mCons (mVar 2) (mCons (mVar 5) mNil)))) mNil))) mNext)))
    (mSeq (mFor (iRan (mCons (mVar 4) mNil)) (gSet 2) (mExpr (mMt "list" fExtend (mVar 3) (mCons (mLc 7 (iSeq (mCall D_store (mFz (mCons (mVar 0) (mCons (mVar 1) mNil))))) (gSet 6) (mB (mCall D_fits (mFz (mCons (mVar 0) (mCons (mVar 2) (mCons (mVar 6) mNil)))))) (mTup (mCons (mLit (.str "take")) (mCons (mVar 2) (mCons (mVar 6) mNil)))) [6]) mNil))))
    (mRet (mVar 3)))))
def BlawV4 (D_box : Dm) (D_right : Dm) : Dm := mkD 1 4 [0]
    (mSeq (mFor (iRan (mCons (m2 fAddX (mLit (.int 1)) (mB1 fMin2 (mCons (mLit (.int 3)) (mCons (mB1 fLen (mCons (mVar 0) mNil)) mNil)))) mNil)) (gSet 1) (mSeq (mSet 2 (mCall D_box (mFz (mCons (mVar 0) (mCons (mVar 1) mNil)))))
    (mIf (mNotT (mB (mB1 fAll (mCons (mLc 4 (iRan (mCons (mLit (.int 2)) mNil)) (gSet 3) mYes (mCall D_right (mFz (mCons (mVar 2) mNil))) [3]) mNil)))) (mRet (mLit (.bool false))) mNext)))
    (mRet (mLit (.bool true))))
def B_wandered (D_deals : Dm) (D_pick : Dm) (D_after : Dm) : Dm := mkD 4 7 [0, 1, 3]
    (mSeq (mSet 4 (mLst mNil))
    (mSeq (mFor (iRan (mCons (mVar 3) mNil)) (gSet 5) (mSeq (mGh [6] (mSet 6 (mCall D_deals (mFz (mCons (mVar 1) (mCons (mVar 2) mNil))))))
    (mIf (mB (m2 fNeX (mVar 6) (mLst mNil))) (mSeq (mExpr (mMtZ "list" fAppend (mVar 4) (mCons (mCall D_pick (mFz (mCons (mVar 0) (mCons (mVar 6) mNil)))) mNil)))
    (mGh [2] (mSet 2 (mCall D_after (mFz (mCons (mVar 2) (mCons (m2 fIx (mVar 4) (m1 fNeg (mLit (.int 1)))) mNil))))))) mNext)))
    (mRet (mTup (mCons (mVar 4) (mCons (mVar 2) mNil))))))
def Bhulls : Dm := mkD 1 2 [0]
    (mRet (mB1 fTuple (mCons (mLc 2 (iZpS (mVar 0)) (gSet 1) mYes (mTup (mCons (mB1 fMinX (mCons (mVar 1) mNil)) (mCons (mB1 (fBest max) (mCons (mVar 1) mNil)) mNil))) [1]) mNil)))
def B_rightV21 (D_plant : Dm) (D_take : Dm) (D_wandered : Dm) (Dhulls : Dm) (D_lists : Dm) (D_same : Dm) : Dm := mkD 1 15 [0]
    (mSeq (mAsg (gTupD 2 (gsCons (gSet 6) (gsCons (gSet 7) gsNil))) (mCall D_plant (mFz (mCons (mVar 0) (mCons (mLit (.int 8)) (mCons (mLit (.int 12)) mNil))))))
    (mSeq (mSet 1 (mLst (mCons (mVar 7) mNil)))
    (mSeq (mFor (iRan (mCons (mCall D_take (mFz (mCons (mVar 0) (mCons (mLit (.int 20)) mNil)))) mNil)) (gSet 2) (mExpr (mMtZ "list" fAppend (mVar 1) (mCons (m2 fIx (mCall D_wandered (mFz (mCons (mVar 0) (mCons (mVar 6) (mCons (m2 fIx (mVar 1) (m1 fNeg (mLit (.int 1)))) (mCons (m2 fAddX (mLit (.int 1)) (mCall D_take (mFz (mCons (mVar 0) (mCons (mLit (.int 3)) mNil))))) mNil)))))) (mLit (.int 1))) mNil))))
    (mSeq (mGh [8] (mPar [8, 9] (mCons (mB1 fRepr (mCons (mVar 1) mNil)) (mCons (mLst mNil) mNil))))
    (mSeq (mFor (iRan (mCons (mB1 fLen (mCons (mVar 7) mNil)) mNil)) (gSet 3) (mSeq (mGh [10] (mSet 10 (mB1 fSorted (mCons (mLc 15 (iSeq (mVar 1)) (gSet 11) mYes (m2 fIx (mVar 11) (mVar 3)) [11]) mNil))))
    (mExpr (mMtZ "list" fAppend (mVar 9) (mCons (mTup (mCons (m2 fIx (mVar 10) (mLit (.int 0))) (mCons (m2 fIx (mVar 10) (m1 fNeg (mLit (.int 1)))) mNil))) mNil)))))
    (mSeq (mGh [4] (mSet 4 (mLst (mCons (mCall Dhulls (mFz (mCons (mVar 1) mNil))) (mCons (mCall Dhulls (mFz (mPermA [0] 1 (mCons (mB1 fTuple (mCons (mCall D_lists (mFz (mCons (mVar 1) mNil))) mNil)) mNil)))) mNil)))))
    (mSeq (mIf (mOrT (mNotT (mB (mCall D_same (mFz (mCons (mVar 4) (mCons (m2 fMulY (mLst (mCons (mB1 fTuple (mCons (mVar 9) mNil)) mNil)) (mLit (.int 2))) mNil)))))) (mB (m2 fNeX (mB1 fRepr (mCons (mVar 1) mNil)) (mVar 8)))) (mRet (mLit (.bool false))) mNext)
    (mSeq (mGh [5] (mSet 5 (mCall Dhulls (mFz (mCons (m2 fAddX (mSl (mVar 1) oNone (oSome (m1 fNeg (mLit (.int 1))))) (mSl (mVar 1) oNone (oSome (mLit (.int 1))))) mNil)))))
    (mSeq (mIf (mNotT (mB (mB1 fAll (mCons (mLc 15 (iZp (mCons (mVar 9) (mCons (mVar 5) mNil))) (gTupD 2 (gsCons (gSet 13) (gsCons (gSet 14) gsNil))) mYes (mAndV (m2 fLe (m2 fIx (mVar 13) (mLit (.int 0))) (m2 fIx (mVar 14) (mLit (.int 0)))) (m2 fLe (m2 fIx (mVar 14) (mLit (.int 1))) (m2 fIx (mVar 13) (mLit (.int 1))))) [13, 14]) mNil)))) (mRet (mLit (.bool false))) mNext)
    (mRet (m2 fEqX (mCall Dhulls (mFz (mCons (mLst (mCons (mVar 7) mNil)) mNil))) (mB1 fTuple (mCons (mLc 15 (iSeq (mVar 7)) (gSet 12) mYes (mTup (mCons (mVar 12) (mCons (mVar 12) mNil))) [12]) mNil)))))))))))))
end Rf
namespace Lk21
open PySem PySem.Spec PyProof.Rows L2 Rf
def topS (i : Nat) : Stmt := PySem.Challenge.pw_spindlefit_k21_hulls.main.body.getD i (.Pass ⟨0, 0, 0, 0⟩)
def dhulls : DR := ⟨"hulls", ["settings"], ["sizes"], [0], [["settings"]], [], false, topS 1, false, []⟩
def d_box : DR := ⟨"_law_box", ["_law_script", "_law_k"], ["_law_cell"], [0, 1], [], [], false, topS 3, false, []⟩
def d_take : DR := ⟨"_law_take", ["_law_box_here", "_law_span_here"], ["_law_once", "_law_found"], [0, 1], [], ["_law_box_here", "_law_found"], false, topS 4, false, []⟩
def d_pick : DR := ⟨"_law_pick", ["_law_box_here", "_law_some"], [], [0, 1], [], ["_law_box_here"], false, topS 5, false, []⟩
def d_same : DR := ⟨"_law_same", ["_law_found", "_law_due"], ["_law_mine", "_law_its"], [0, 1], [], [], false, topS 6, false, []⟩
def d_lists : DR := ⟨"_law_lists", ["_law_matter"], ["_law_part"], [0], [], [], false, topS 7, false, []⟩
def d_shuffled : DR := ⟨"_law_shuffled", ["_law_box_here", "_law_some"], ["_law_left", "_law_found"], [0, 1], [], ["_law_box_here", "_law_left", "_law_found"], false, topS 8, false, []⟩
def d_gauges : DR := ⟨"_law_gauges", ["_law_box_here", "_law_total"], ["_law_k", "_law_gap", "_law_top", "_law_found"], [0, 1], [], ["_law_box_here", "_law_found"], false, topS 9, false, []⟩
def d_span : DR := ⟨"_law_span", ["_law_box_here", "_law_gauges_here", "_law_held"], ["_law_at", "_law_slack", "_law_first", "_law_last", "_law_bottom", "_law_top"], [0, 1, 2], [], ["_law_box_here"], false, topS 10, false, []⟩
def d_plant : DR := ⟨"_law_plant", ["_law_box_here", "_law_mills", "_law_most"], ["_law_count", "_law_gauges_here", "_law_stand", "_law_held"], [0, 1, 2], [], ["_law_box_here"], false, topS 11, false, []⟩
def d_fits : DR := ⟨"_law_fits", ["_law_plant_here", "_law_mill", "_law_gauge"], [], [0, 1, 2], [], [], false, topS 12, false, []⟩
def d_store : DR := ⟨"_law_store", ["_law_plant_here", "_law_stand"], ["_law_gauge"], [0, 1], [], [], false, topS 13, false, []⟩
def d_after : DR := ⟨"_law_after", ["_law_stand", "_law_deal"], ["_law_found"], [0, 1], [], ["_law_found"], false, topS 14, false, []⟩
def d_deals : DR := ⟨"_law_deals", ["_law_plant_here", "_law_stand"], ["_law_mill", "_law_found", "_law_count", "_law_mate", "_law_gauge"], [0, 1], [], ["_law_found"], false, topS 15, false, []⟩
def d_wandered : DR := ⟨"_law_wandered", ["_law_box_here", "_law_plant_here", "_law_stand", "_law_turns"], ["_law_tour", "_law_turn", "_law_some"], [0, 1, 3], [], ["_law_box_here", "_law_tour"], false, topS 16, false, []⟩
def d_right : DR := ⟨"_law_right", ["_law_box_here"], ["_law_seen", "_law_turn", "_law_mill", "_law_told", "_law_fewer", "_law_plant_here", "_law_stand", "_law_kept", "_law_due", "_law_some", "_law_here", "_law_gauge", "_law_span_here", "_law_part"], [0], [], ["_law_box_here", "_law_seen", "_law_due"], false, topS 17, false, []⟩
def dlaw : DR := ⟨"law", ["_law_script"], ["_law_k", "_law_box_here", "_law_turn"], [0], [], ["_law_box_here"], false, topS 18, false, []⟩
def defs : List DR := [dhulls, d_box, d_take, d_pick, d_same, d_lists, d_shuffled, d_gauges, d_span, d_plant, d_fits, d_store, d_after, d_deals, d_wandered, d_right, dlaw]
def xs : List XR := []
def blts : List Str := ["abs", "all", "bool", "int", "isinstance", "len", "list", "max", "min", "range", "repr", "sorted", "str", "tuple", "zip"]
def bl (x : Str) : Bool := blts.contains x
abbrev En (n : Nat) : Str → Option DI := envD 40 defs bl xs n
def Dhulls (n : Nat) : Dm := dm 40 dhulls (En n) bl xs
def D_box (n : Nat) : Dm := dm 40 d_box (En n) bl xs
def D_take (n : Nat) : Dm := dm 40 d_take (En n) bl xs
def D_pick (n : Nat) : Dm := dm 40 d_pick (En n) bl xs
def D_same (n : Nat) : Dm := dm 40 d_same (En n) bl xs
def D_lists (n : Nat) : Dm := dm 40 d_lists (En n) bl xs
def D_shuffled (n : Nat) : Dm := dm 40 d_shuffled (En n) bl xs
def D_gauges (n : Nat) : Dm := dm 40 d_gauges (En n) bl xs
def D_span (n : Nat) : Dm := dm 40 d_span (En n) bl xs
def D_plant (n : Nat) : Dm := dm 40 d_plant (En n) bl xs
def D_fits (n : Nat) : Dm := dm 40 d_fits (En n) bl xs
def D_store (n : Nat) : Dm := dm 40 d_store (En n) bl xs
def D_after (n : Nat) : Dm := dm 40 d_after (En n) bl xs
def D_deals (n : Nat) : Dm := dm 40 d_deals (En n) bl xs
def D_wandered (n : Nat) : Dm := dm 40 d_wandered (En n) bl xs
def D_right (n : Nat) : Dm := dm 40 d_right (En n) bl xs
def Dlaw (n : Nat) : Dm := dm 40 dlaw (En n) bl xs
theorem ehulls (n : Nat) : Dhulls (n + 1) = Bhulls := by kernel_rfl
theorem e_box (n : Nat) : D_box (n + 1) = B_box := by kernel_rfl
theorem e_take (n : Nat) : D_take (n + 1) = B_take (D_take n) := by kernel_rfl
theorem e_pick (n : Nat) : D_pick (n + 1) = B_pick (D_take n) := by kernel_rfl
theorem e_same (n : Nat) : D_same (n + 1) = B_same (D_same n) := by kernel_rfl
theorem e_lists (n : Nat) : D_lists (n + 1) = B_lists (D_lists n) := by kernel_rfl
theorem e_shuffled (n : Nat) : D_shuffled (n + 1) = B_shuffled (D_take n) := by kernel_rfl
theorem e_gauges (n : Nat) : D_gauges (n + 1) = B_gauges (D_pick n) (D_take n) := by kernel_rfl
theorem e_span (n : Nat) : D_span (n + 1) = B_span (D_take n) := by kernel_rfl
theorem e_plant (n : Nat) : D_plant (n + 1) = B_plant (D_take n) (D_gauges n) (D_shuffled n) (D_span n) := by kernel_rfl
theorem e_fits (n : Nat) : D_fits (n + 1) = B_fits := by kernel_rfl
theorem e_store (n : Nat) : D_store (n + 1) = B_store := by kernel_rfl
theorem e_after (n : Nat) : D_after (n + 1) = B_after := by kernel_rfl
theorem e_deals (n : Nat) : D_deals (n + 1) = B_deals (D_fits n) (D_store n) := by kernel_rfl
theorem e_wandered (n : Nat) : D_wandered (n + 1) = B_wandered (D_deals n) (D_pick n) (D_after n) := by kernel_rfl
theorem e_right (n : Nat) : D_right (n + 1) = B_rightV21 (D_plant n) (D_take n) (D_wandered n) (Dhulls n) (D_lists n) (D_same n) := by kernel_rfl
theorem elaw (n : Nat) : Dlaw (n + 1) = BlawV4 (D_box n) (D_right n) := by kernel_rfl
end Lk21

namespace Rf
open PySem PySem.Spec PyProof.Rows L2
theorem seqN {m k : MS} {fm fm1 : Fm} {r : Option (Fl × Fm)} (h : m fm = some (.nx, fm1)) (h2 : k fm1 = r) : mSeq m k fm = r := by simp only [Q8, h, h2]
theorem ghN {m : MS} {is : List Nat} {fm fm1 : Fm} (h : m fm = some (.nx, fm1)) : mGh is m fm = some (.nx, frzL is fm1) := by simp only [Qb, h]
theorem mkD_rt {n N : Nat} {ro : List Nat} {m : MS} {as outs : List S0} {v r : SV} {fm1 fm2 : Fm} (hn : as.length = n) (hm : m (as.map some ++ List.replicate (N - n) none) = some (.rt v, fm1)) (hr : retv as v fm1 = some (r, fm2)) (ho : outsFrom ro fm2 0 as = some outs) : mkD n N ro m as = some (r, outs) := by
  rw [Qa, if_pos hn, hm]; simp only [hr, ho]
theorem forN {mi : MI} {g : MG} {m : MS} {fm fm1 : Fm} {ds : List PyData} {r : Option (Fl × Fm)} (h : mi fm = some (ds, fm1)) (h2 : loopM g m ds fm1 = r) : mFor mi g m fm = r := by simp only [Q9, h, h2]
theorem loop_inv {g : MG} {m : MS} (I : Nat → Fm → Prop) (K : Nat) : ∀ (ds : List PyData) (k : Nat) (fm : Fm), (∀ (j : Nat) (d : PyData), ds[j]? = some d → ∀ fm, I (k + j) fm → ∃ fm1 fm2, g d fm = some fm1 ∧ m fm1 = some (.nx, fm2) ∧ I (k + j + 1) fm2) → I k fm → ∃ fm', loopM g m ds fm = some (.nx, fm') ∧ I (k + ds.length) fm'
  | [], k, fm, _, i => ⟨fm, by simp [loopM], by simpa using i⟩
  | d :: ds, k, fm, h, i => by
    obtain ⟨fm1, fm2, h1, h2, h3⟩ := h 0 d rfl fm i
    obtain ⟨fm', e1, e2⟩ := loop_inv (g := g) (m := m) I K ds (k + 1) fm2 (fun j d' hj fm i => by
      have := h (j + 1) d' (by simpa using hj) fm (by rwa [show k + (j + 1) = k + 1 + j by omega])
      rwa [show k + (j + 1) + 1 = k + 1 + j + 1 by omega] at this) h3
    refine ⟨fm', by simp only [loopM, h1, h2, e1], ?_⟩
    rw [show k + (d :: ds).length = k + 1 + ds.length by simp; omega]; exact e2
theorem comp_inv {g : MG} {me : ME} {vs : List Nat} (I : Nat → Fm → Prop) (P : Nat → PyData → Prop) : ∀ (ds acc : List PyData) (k : Nat) (fm : Fm), (∀ (j : Nat) (d : PyData), ds[j]? = some d → ∀ fm, I (k + j) fm → ∃ fm1 v fm2 r fm3, g d fm = some fm1 ∧ me fm1 = some (v, fm2) ∧ frz v fm2 = some (r, fm3) ∧ P (k + j) r ∧ I (k + j + 1) (wipeF fm3 vs)) → I k fm → acc.length + ds.length ≤ sizeLine →
    ∃ out fm', compM g mYes me vs ds fm acc = some (acc ++ out, fm') ∧ out.length = ds.length ∧ (∀ (j : Nat) (x : PyData), out[j]? = some x → P (k + j) x) ∧ I (k + ds.length) fm'
  | [], acc, k, fm, _, i, _ => ⟨[], fm, by simp [compM], rfl, by simp, by simpa using i⟩
  | d :: ds, acc, k, fm, h, i, hs => by
    obtain ⟨fm1, v, fm2, r, fm3, h1, h2, h3, h4, h5⟩ := h 0 d rfl fm i
    have h6 : acc.length < sizeLine := by simp at hs; omega
    obtain ⟨out, fm', e1, e2, e3, e4⟩ := comp_inv (g := g) (me := me) (vs := vs) I P ds (acc ++ [r]) (k + 1) (wipeF fm3 vs) (fun j d' hj fm i => by
      have := h (j + 1) d' (by simpa using hj) fm (by rwa [show k + (j + 1) = k + 1 + j by omega])
      rwa [show k + (j + 1) = k + 1 + j by omega] at this) h5 (by simp at hs ⊢; omega)
    refine ⟨r :: out, fm', ?_, by simp [e2], fun j x hx => ?_, ?_⟩
    · simp only [compM, h1, mYes, h2, h3, if_pos h6, e1, List.append_assoc, List.cons_append, List.nil_append]
    · cases j with
      | zero => simp at hx; subst hx; exact h4
      | succ j => have := e3 j x (by simpa using hx); rwa [show k + (j + 1) = k + 1 + j by omega]
    · rw [show k + (d :: ds).length = k + 1 + ds.length by simp; omega]; exact e4
theorem comp_look {g : MG} {mt : MT} {me : ME} {vs : List Nat} (fm : Fm) (p : PyData → Bool) (f : PyData → PyData) : ∀ (ds acc : List PyData), (∀ d ∈ ds, ∃ fm1 fm2, g d fm = some fm1 ∧ mt fm1 = some (p d, fm2) ∧ (p d = false → wipeF fm2 vs = fm) ∧ (p d = true → ∃ v fm3 fm4, me fm2 = some (v, fm3) ∧ frz v fm3 = some (f d, fm4) ∧ wipeF fm4 vs = fm)) → acc.length + ds.length ≤ sizeLine →
    compM g mt me vs ds fm acc = some (acc ++ (ds.filter p).map f, fm)
  | [], acc, _, _ => by simp [compM]
  | d :: ds, acc, h, hs => by
    obtain ⟨fm1, fm2, h1, h2, h3, h4⟩ := h d (by simp)
    have h5 : acc.length < sizeLine := by simp at hs; omega
    cases hp : p d with
    | false =>
      have ih := comp_look (g := g) (mt := mt) (me := me) (vs := vs) fm p f ds acc (fun e m => h e (by simp [m])) (by simp at hs ⊢; omega)
      simp only [compM, h1, h2, hp, h3 hp, ih, List.filter_cons, Bool.false_eq_true, ↓reduceIte]
    | true =>
      obtain ⟨v, fm3, fm4, k1, k2, k3⟩ := h4 hp
      have ih := comp_look (g := g) (mt := mt) (me := me) (vs := vs) fm p f ds (acc ++ [f d]) (fun e m => h e (by simp [m])) (by simp at hs ⊢; omega)
      simp only [compM, h1, h2, hp, k1, k2, k3, if_pos h5, ih, List.filter_cons, ↓reduceIte, List.map_cons, List.append_assoc, List.cons_append, List.nil_append]
theorem comp_all {g : MG} {me : ME} {vs : List Nat} (fm : Fm) (f : PyData → PyData) (ds : List PyData) (h : ∀ d ∈ ds, ∃ fm1 v fm3 fm4, g d fm = some fm1 ∧ me fm1 = some (v, fm3) ∧ frz v fm3 = some (f d, fm4) ∧ wipeF fm4 vs = fm) (hs : ds.length ≤ sizeLine) :
    compM g mYes me vs ds fm [] = some (ds.map f, fm) := by
  have := comp_look (g := g) (mt := mYes) (me := me) (vs := vs) fm (fun _ => true) f ds [] (fun d m => by
    obtain ⟨fm1, v, fm3, fm4, h1, h2, h3, h4⟩ := h d m
    exact ⟨fm1, fm1, h1, rfl, (fun z => nomatch z), fun _ => ⟨v, fm3, fm4, h2, h3, h4⟩⟩) (by simpa using hs)
  rwa [List.nil_append, List.filter_eq_self.2 (fun _ _ => rfl)] at this
theorem wback_d1 (d : PyData) (o : List S0) (fm : Fm) : wback [.dat d] o fm = fm := by cases o <;> rfl
theorem wback_d2 (d e : PyData) (o : List S0) (fm : Fm) : wback [.dat d, .dat e] o fm = fm := by
  rcases o with _ | ⟨a, _ | ⟨b, o⟩⟩ <;> rfl
theorem wback_d3 (d e f : PyData) (o : List S0) (fm : Fm) : wback [.dat d, .dat e, .dat f] o fm = fm := by
  rcases o with _ | ⟨a, _ | ⟨b, _ | ⟨c, o⟩⟩⟩ <;> rfl
def Wp (m : MS) (fm : Fm) (Q : Fl → Fm → Prop) : Prop := ∃ fl fm', m fm = some (fl, fm') ∧ Q fl fm'
theorem wp_is {m : MS} {fm fm' : Fm} {fl : Fl} {Q : Fl → Fm → Prop} (h : m fm = some (fl, fm')) (q : Q fl fm') : Wp m fm Q := ⟨fl, fm', h, q⟩
theorem wp_nx {m k : MS} {fm fm1 : Fm} {Q : Fl → Fm → Prop} (h : m fm = some (.nx, fm1)) (hk : Wp k fm1 Q) : Wp (mSeq m k) fm Q := by
  obtain ⟨fl, fm', e, q⟩ := hk
  exact ⟨fl, fm', seqN h e, q⟩
theorem wp_gh {m k : MS} {is : List Nat} {fm fm1 : Fm} {Q : Fl → Fm → Prop} (h : m fm = some (.nx, fm1)) (hk : Wp k (frzL is fm1) Q) : Wp (mSeq (mGh is m) k) fm Q := wp_nx (ghN h) hk
theorem wp_seq {m k : MS} {fm : Fm} {Q : Fl → Fm → Prop} (h : Wp m fm fun fl fm1 => fl = .nx ∧ Wp k fm1 Q) : Wp (mSeq m k) fm Q := by
  obtain ⟨fl, fm1, e, rfl, h2⟩ := h
  exact wp_nx e h2
theorem wp_if {c : MT} {m n : MS} {fm fm1 : Fm} {b : Bool} {Q : Fl → Fm → Prop} (h : c fm = some (b, fm1)) (h1 : b = true → Wp m fm1 Q) (h2 : b = false → Wp n fm1 Q) : Wp (mIf c m n) fm Q := by
  cases b with
  | true => obtain ⟨fl, fm2, e, q⟩ := h1 rfl; exact ⟨fl, fm2, by simp only [Q4, h, e], q⟩
  | false => obtain ⟨fl, fm2, e, q⟩ := h2 rfl; exact ⟨fl, fm2, by simp only [Q4, h, e], q⟩
theorem wp_for {mi : MI} {g : MG} {m : MS} {fm fm0 : Fm} {ds : List PyData} {Q : Fl → Fm → Prop} (I : Nat → Fm → Prop) (h : mi fm = some (ds, fm0)) (i0 : I 0 fm0)
    (st : ∀ (j : Nat) (d : PyData), ds[j]? = some d → ∀ fm, I j fm → ∃ fm1, g d fm = some fm1 ∧ Wp m fm1 fun fl fm2 => fl = .nx ∧ I (j + 1) fm2) (fin : ∀ fm', I ds.length fm' → Q .nx fm') : Wp (mFor mi g m) fm Q := by
  obtain ⟨fm', l1, l2⟩ := loop_inv (g := g) (m := m) I 0 ds 0 fm0 (fun j d hj fm i => by
    rw [Nat.zero_add] at i ⊢
    obtain ⟨fm1, e1, fl, fm2, e2, rfl, i2⟩ := st j d hj fm i
    exact ⟨fm1, fm2, e1, e2, i2⟩) i0
  rw [Nat.zero_add] at l2
  exact ⟨.nx, fm', forN h l1, fin fm' l2⟩
theorem wp_while {c : MT} {m : MS} {Q : Fl → Fm → Prop} (I : Nat → Fm → Prop) (st : ∀ k fm, I k fm → (∃ fm1, c fm = some (false, fm1) ∧ Q .nx fm1) ∨ (∃ fm1, c fm = some (true, fm1) ∧ Wp m fm1 fun fl fm2 => fl = .nx ∧ ∃ k', k' < k ∧ I k' fm2)) : ∀ (N k : Nat) (fm : Fm), I k fm → k < N → Wp (mWhile N c m) fm Q
  | 0, k, fm, _, hN => by omega
  | N + 1, k, fm, i, hN => by
    rcases st k fm i with ⟨fm1, e, q⟩ | ⟨fm1, e, fl, fm2, e2, rfl, k', hk, i2⟩
    · exact ⟨.nx, fm1, by simp only [mWhile, whileM, e], q⟩
    · obtain ⟨fl, fm3, e3, q⟩ := wp_while I st N k' fm2 i2 (by omega)
      exact ⟨fl, fm3, by simp only [mWhile, whileM, e, e2]; exact e3, q⟩
def Ev (D : Dm) (as : List S0) (P : SV → List S0 → Prop) : Prop := ∃ r outs, D as = some (r, outs) ∧ P r outs
theorem mkD_wp {n N : Nat} {ro : List Nat} {m : MS} {as : List S0} {P : SV → List S0 → Prop} (hn : as.length = n) (h : Wp m (as.map some ++ List.replicate (N - n) none) fun fl fm1 => ∃ v r fm2 outs, fl = .rt v ∧ retv as v fm1 = some (r, fm2) ∧ outsFrom ro fm2 0 as = some outs ∧ P r outs) : Ev (mkD n N ro m) as P := by
  obtain ⟨fl, fm1, e, v, r, fm2, outs, rfl, e1, e2, p⟩ := h
  exact ⟨r, outs, mkD_rt hn e e1 e2, p⟩
def bxS (a b c : Int) : S0 := .own (.lst [.int a, .int b, .int c])
def Bx (C : Int) (s : S0) : Prop := ∃ a b c, s = bxS a b c ∧ 0 ≤ a ∧ 0 ≤ b ∧ b < 2147483563 ∧ 0 ≤ c ∧ c ≤ C
theorem Bx.mono {C C' : Int} {s : S0} (h : Bx C s) (e : C ≤ C') : Bx C' s := by
  obtain ⟨a, b, c, h1, h2, h3, h4, h5, h6⟩ := h; exact ⟨a, b, c, h1, h2, h3, h4, h5, by omega⟩
theorem Bx.own {C : Int} {s : S0} (h : Bx C s) : ∃ xs, s = .own (.lst xs) := by
  obtain ⟨a, b, c, rfl, _⟩ := h; exact ⟨_, rfl⟩
abbrev BC : Int := 100000000
def SpTake (D : Dm) : Prop := ∀ (C k : Int) (s : S0), Bx C s → C ≤ BC → 0 < k → k ≤ 10000000 → ∃ r s', 0 ≤ r ∧ r < k ∧ Bx (C + 1) s' ∧ D [s, .dat (.int k)] = some (.dat (.int r), [s', .dat (.int k)])
theorem sp_take {T : Dm} : SpTake (B_take T) := by
  intro C k s hs hC hk hk2
  obtain ⟨a, b, c, rfl, h2, h3, h4, h5, h6⟩ := hs
  have hC' : C ≤ 100000000 := hC
  by_cases h : 0 < a
  · refine ⟨a % k, bxS (a / k) b c, Int.emod_nonneg _ (by omega), Int.emod_lt_of_pos _ (by omega), ⟨_, _, _, rfl, Int.ediv_nonneg h2 (by omega), h3, h4, h5, by omega⟩, ?_⟩
    have h7 : k < 1073741824 := by omega
    simp [B_take, Q3, Qd, Qe, Qf, Qg, Qh, Qi, Qj, Qk, Ql, Qm, Qn, Qo, Qp, Qq, Qr, Qs, Qt, Qu, Qv, Qw, Qx, Q7, Qy, Qz, QA, QB, Q8, Q4, QC, QD, QE, QF, QG, Q9, QH, QI, QJ, Qa, YV, QK, QL, QM, QN, QO, QP, QQ, QR, QS, QT, QU, QV, QW, QX, Q0, QY, QZ, Z0, Z1, Z2, Z3, Z4, Z5, Z6, Z7, Z8, Z9, Za, Zb, Zd, Ze, Zf, Zg, Zh, Zi, Zj, Zk, Zl, Zm, Zn, Zo, Zp, Zq, Zr, Zs, Zt, Zu, Zv, Zw, Q5, Zx, Zy, Zz, ZA, ZB, ZC, ZD, ZE, ZF, Qb, ZG, ZH, ZI, ZJ, ZK, ZL, ZM, Q6, ZN, ZO, ZP, ZQ, ZR, ZS, ZT, ZU, ZV, ZW, ZX, ZY, ZZ, Y0, Y1, Y2, Y3, Y4, Y5, Y6, Y7, Y8, Y9, Ya, Yb, Yc, Yd, Ye, Yf, Yg, Yh, Yi, Yj, Yk, Yl, Ym, Yn, Yo, Yp, Yq, Yr, Ys, Yt, Yu, Yv, Yw, Yx, Yy, Yz, YA, YB, YC, YD, YE, YF, YG, YH, YI, YJ, YK, YL, YM, YN, YO, Q1, Q2, Qc, YQ, YR, YS, YT, YU, frz, frzAll, peek, res1, resAll, stoAll, argOf, argsOf, bors, wback, outAt, outsFrom, ownsStay, retv, wipeF, unwipe, sto, isNone, tyD, cY, cMul, cMod, cDiv, cPow, Cell.dat, b2n, frzS, frzL, fzV, atI, ixN, fMulL, excOf, frzO, bxS, h, hk, h7]
  · obtain rfl : a = 0 := by omega
    have h8 : ¬ (10000000 < k) := by omega
    have hp : (b + 51749 * (c + 1)).natAbs < 18446744073709551616 := by omega
    obtain ⟨X, hX⟩ : ∃ X, X = (b + 51749 * (c + 1)) ^ 3 % 2147483587 := ⟨_, rfl⟩
    have x1 : 0 ≤ X := by rw [hX]; exact Int.emod_nonneg _ (by decide)
    have x2 : X < 2147483587 := by rw [hX]; exact Int.emod_lt_of_pos _ (by decide)
    refine ⟨(X * (X % 30013 + 11) + (c + 1) * 6427) % 2147483647 / 32 % k, bxS 0 b (c + 1), Int.emod_nonneg _ (by omega), Int.emod_lt_of_pos _ (by omega), ⟨_, _, _, rfl, by omega, h3, h4, by omega, by omega⟩, ?_⟩
    have y1 : -18446744073709551616 < X := by omega
    have y2 : X < 18446744073709551616 := by omega
    simp [B_take, Q3, Qd, Qe, Qf, Qg, Qh, Qi, Qj, Qk, Ql, Qm, Qn, Qo, Qp, Qq, Qr, Qs, Qt, Qu, Qv, Qw, Qx, Q7, Qy, Qz, QA, QB, Q8, Q4, QC, QD, QE, QF, QG, Q9, QH, QI, QJ, Qa, YV, QK, QL, QM, QN, QO, QP, QQ, QR, QS, QT, QU, QV, QW, QX, Q0, QY, QZ, Z0, Z1, Z2, Z3, Z4, Z5, Z6, Z7, Z8, Z9, Za, Zb, Zd, Ze, Zf, Zg, Zh, Zi, Zj, Zk, Zl, Zm, Zn, Zo, Zp, Zq, Zr, Zs, Zt, Zu, Zv, Zw, Q5, Zx, Zy, Zz, ZA, ZB, ZC, ZD, ZE, ZF, Qb, ZG, ZH, ZI, ZJ, ZK, ZL, ZM, Q6, ZN, ZO, ZP, ZQ, ZR, ZS, ZT, ZU, ZV, ZW, ZX, ZY, ZZ, Y0, Y1, Y2, Y3, Y4, Y5, Y6, Y7, Y8, Y9, Ya, Yb, Yc, Yd, Ye, Yf, Yg, Yh, Yi, Yj, Yk, Yl, Ym, Yn, Yo, Yp, Yq, Yr, Ys, Yt, Yu, Yv, Yw, Yx, Yy, Yz, YA, YB, YC, YD, YE, YF, YG, YH, YI, YJ, YK, YL, YM, YN, YO, Q1, Q2, Qc, YQ, YR, YS, YT, YU, frz, frzAll, peek, res1, resAll, stoAll, argOf, argsOf, bors, wback, outAt, outsFrom, ownsStay, retv, wipeF, unwipe, sto, isNone, tyD, cY, cMul, cMod, cDiv, cPow, Cell.dat, b2n, frzS, frzL, fzV, atI, ixN, fMulL, excOf, frzO, bxS, h8, hp, ← hX, y1, y2, hk]
theorem atI_mem {ds : List PyData} {r : Int} (h0 : 0 ≤ r) (h1 : r < ds.length) : ∃ x, x ∈ ds ∧ atI ds r = some x := by
  have : r.toNat < ds.length := by omega
  refine ⟨ds[r.toNat], List.getElem_mem this, ?_⟩
  simp [atI, ixN, h0, h1, this]
def SpPick (D : Dm) : Prop := ∀ (C : Int) (s t : S0) (ds : List PyData), (t = .own (.lst ds) ∨ t = .dat (.list ds) ∨ t = .dat (.tuple ds)) → Bx C s → C ≤ BC → 0 < ds.length → ds.length ≤ 100000 → ∃ x s', x ∈ ds ∧ Bx (C + 1) s' ∧ D [s, t] = some (.dat x, [s', t])
theorem sp_pick {T : Dm} (hT : SpTake T) : SpPick (B_pick T) := by
  intro C s t ds ht hs hC h0 h1
  obtain ⟨r, s', e1, e2, e3, e4⟩ := hT C ds.length s hs hC (by omega) (by omega)
  obtain ⟨x, m, e5⟩ := atI_mem e1 e2
  obtain ⟨xs, rfl⟩ := hs.own
  obtain ⟨ys, rfl⟩ := e3.own
  refine ⟨x, _, m, e3, ?_⟩
  rcases ht with rfl | rfl | rfl
  · simp [B_pick, Q3, Qd, Qe, Qf, Qg, Qh, Qi, Qj, Qk, Ql, Qm, Qn, Qo, Qp, Qq, Qr, Qs, Qt, Qu, Qv, Qw, Qx, Q7, Qy, Qz, QA, QB, Q8, Q4, QC, QD, QE, QF, QG, Q9, QH, QI, QJ, Qa, YV, QK, QL, QM, QN, QO, QP, QQ, QR, QS, QT, QU, QV, QW, QX, Q0, QY, QZ, Z0, Z1, Z2, Z3, Z4, Z5, Z6, Z7, Z8, Z9, Za, Zb, Zd, Ze, Zf, Zg, Zh, Zi, Zj, Zk, Zl, Zm, Zn, Zo, Zp, Zq, Zr, Zs, Zt, Zu, Zv, Zw, Q5, Zx, Zy, Zz, ZA, ZB, ZC, ZD, ZE, ZF, Qb, ZG, ZH, ZI, ZJ, ZK, ZL, ZM, Q6, ZN, ZO, ZP, ZQ, ZR, ZS, ZT, ZU, ZV, ZW, ZX, ZY, ZZ, Y0, Y1, Y2, Y3, Y4, Y5, Y6, Y7, Y8, Y9, Ya, Yb, Yc, Yd, Ye, Yf, Yg, Yh, Yi, Yj, Yk, Yl, Ym, Yn, Yo, Yp, Yq, Yr, Ys, Yt, Yu, Yv, Yw, Yx, Yy, Yz, YA, YB, YC, YD, YE, YF, YG, YH, YI, YJ, YK, YL, YM, YN, YO, Q1, Q2, Qc, YQ, YR, YS, YT, YU, frz, frzAll, peek, res1, resAll, stoAll, argOf, argsOf, bors, wback, outAt, outsFrom, ownsStay, retv, wipeF, unwipe, sto, isNone, tyD, cY, cMul, cMod, cDiv, cPow, Cell.dat, b2n, frzS, frzL, fzV, fMulL, excOf, frzO, e4, e5]
  · simp [B_pick, Q3, Qd, Qe, Qf, Qg, Qh, Qi, Qj, Qk, Ql, Qm, Qn, Qo, Qp, Qq, Qr, Qs, Qt, Qu, Qv, Qw, Qx, Q7, Qy, Qz, QA, QB, Q8, Q4, QC, QD, QE, QF, QG, Q9, QH, QI, QJ, Qa, YV, QK, QL, QM, QN, QO, QP, QQ, QR, QS, QT, QU, QV, QW, QX, Q0, QY, QZ, Z0, Z1, Z2, Z3, Z4, Z5, Z6, Z7, Z8, Z9, Za, Zb, Zd, Ze, Zf, Zg, Zh, Zi, Zj, Zk, Zl, Zm, Zn, Zo, Zp, Zq, Zr, Zs, Zt, Zu, Zv, Zw, Q5, Zx, Zy, Zz, ZA, ZB, ZC, ZD, ZE, ZF, Qb, ZG, ZH, ZI, ZJ, ZK, ZL, ZM, Q6, ZN, ZO, ZP, ZQ, ZR, ZS, ZT, ZU, ZV, ZW, ZX, ZY, ZZ, Y0, Y1, Y2, Y3, Y4, Y5, Y6, Y7, Y8, Y9, Ya, Yb, Yc, Yd, Ye, Yf, Yg, Yh, Yi, Yj, Yk, Yl, Ym, Yn, Yo, Yp, Yq, Yr, Ys, Yt, Yu, Yv, Yw, Yx, Yy, Yz, YA, YB, YC, YD, YE, YF, YG, YH, YI, YJ, YK, YL, YM, YN, YO, Q1, Q2, Qc, YQ, YR, YS, YT, YU, frz, frzAll, peek, res1, resAll, stoAll, argOf, argsOf, bors, wback, outAt, outsFrom, ownsStay, retv, wipeF, unwipe, sto, isNone, tyD, cY, cMul, cMod, cDiv, cPow, Cell.dat, b2n, frzS, frzL, fzV, fMulL, excOf, frzO, e4, e5]
  · simp [B_pick, Q3, Qd, Qe, Qf, Qg, Qh, Qi, Qj, Qk, Ql, Qm, Qn, Qo, Qp, Qq, Qr, Qs, Qt, Qu, Qv, Qw, Qx, Q7, Qy, Qz, QA, QB, Q8, Q4, QC, QD, QE, QF, QG, Q9, QH, QI, QJ, Qa, YV, QK, QL, QM, QN, QO, QP, QQ, QR, QS, QT, QU, QV, QW, QX, Q0, QY, QZ, Z0, Z1, Z2, Z3, Z4, Z5, Z6, Z7, Z8, Z9, Za, Zb, Zd, Ze, Zf, Zg, Zh, Zi, Zj, Zk, Zl, Zm, Zn, Zo, Zp, Zq, Zr, Zs, Zt, Zu, Zv, Zw, Q5, Zx, Zy, Zz, ZA, ZB, ZC, ZD, ZE, ZF, Qb, ZG, ZH, ZI, ZJ, ZK, ZL, ZM, Q6, ZN, ZO, ZP, ZQ, ZR, ZS, ZT, ZU, ZV, ZW, ZX, ZY, ZZ, Y0, Y1, Y2, Y3, Y4, Y5, Y6, Y7, Y8, Y9, Ya, Yb, Yc, Yd, Ye, Yf, Yg, Yh, Yi, Yj, Yk, Yl, Ym, Yn, Yo, Yp, Yq, Yr, Ys, Yt, Yu, Yv, Yw, Yx, Yy, Yz, YA, YB, YC, YD, YE, YF, YG, YH, YI, YJ, YK, YL, YM, YN, YO, Q1, Q2, Qc, YQ, YR, YS, YT, YU, frz, frzAll, peek, res1, resAll, stoAll, argOf, argsOf, bors, wback, outAt, outsFrom, ownsStay, retv, wipeF, unwipe, sto, isNone, tyD, cY, cMul, cMod, cDiv, cPow, Cell.dat, b2n, frzS, frzL, fzV, fMulL, excOf, frzO, e4, e5]
def SpBox (D : Dm) : Prop := ∀ (ns : List Int) (k : Int), 0 ≤ k → k ≤ 3 → ns.length ≤ 63 → ∃ c, Bx 0 (.own c) ∧ D [.dat (scr ns), .dat (.int k)] = some (.fre c, [.dat (scr ns), .dat (.int k)])
theorem sp_box : SpBox B_box := by
  intro ns k h0 hk hl
  have key : ∀ x : Int, Bx 0 (bxS ((if x < 0 then -x else x) * (if 1000000000000000000 ≤ (if x < 0 then -x else x) then 1 else 0)) ((x % 2147483629 + 15511 * k + 23) * 40361 % 2147483563) 0) := fun x => by
    refine ⟨_, _, _, rfl, Int.mul_nonneg ?_ ?_, Int.emod_nonneg _ (by decide), Int.emod_lt_of_pos _ (by decide), by decide, by decide⟩
    · split <;> omega
    · split <;> omega
  have e2 : scr ns = .list (ns.map .int) := rfl
  by_cases hlt : k < ns.length
  · have hq : k.toNat < ns.length := by omega
    refine ⟨_, key ns[k.toNat], ?_⟩
    by_cases h18 : 1000000000000000000 ≤ (if ns[k.toNat] < 0 then -ns[k.toNat] else ns[k.toNat])
    · simp [B_box, Q3, Qd, Qe, Qf, Qg, Qh, Qi, Qj, Qk, Ql, Qm, Qn, Qo, Qp, Qq, Qr, Qs, Qt, Qu, Qv, Qw, Qx, Q7, Qy, Qz, QA, QB, Q8, Q4, QC, QD, QE, QF, QG, Q9, QH, QI, QJ, Qa, YV, QK, QL, QM, QN, QO, QP, QQ, QR, QS, QT, QU, QV, QW, QX, Q0, QY, QZ, Z0, Z1, Z2, Z3, Z4, Z5, Z6, Z7, Z8, Z9, Za, Zb, Zd, Ze, Zf, Zg, Zh, Zi, Zj, Zk, Zl, Zm, Zn, Zo, Zp, Zq, Zr, Zs, Zt, Zu, Zv, Zw, Q5, Zx, Zy, Zz, ZA, ZB, ZC, ZD, ZE, ZF, Qb, ZG, ZH, ZI, ZJ, ZK, ZL, ZM, Q6, ZN, ZO, ZP, ZQ, ZR, ZS, ZT, ZU, ZV, ZW, ZX, ZY, ZZ, Y0, Y1, Y2, Y3, Y4, Y5, Y6, Y7, Y8, Y9, Ya, Yb, Yc, Yd, Ye, Yf, Yg, Yh, Yi, Yj, Yk, Yl, Ym, Yn, Yo, Yp, Yq, Yr, Ys, Yt, Yu, Yv, Yw, Yx, Yy, Yz, YA, YB, YC, YD, YE, YF, YG, YH, YI, YJ, YK, YL, YM, YN, YO, Q1, Q2, Qc, YQ, YR, YS, YT, YU, frz, frzAll, peek, res1, resAll, stoAll, argOf, argsOf, bors, wback, outAt, outsFrom, ownsStay, retv, wipeF, unwipe, sto, isNone, tyD, cY, cMul, cMod, cDiv, cPow, Cell.dat, b2n, frzS, frzL, fzV, atI, ixN, fMulL, excOf, frzO, e2, hlt, h0, hq, h18]
    · simp [B_box, Q3, Qd, Qe, Qf, Qg, Qh, Qi, Qj, Qk, Ql, Qm, Qn, Qo, Qp, Qq, Qr, Qs, Qt, Qu, Qv, Qw, Qx, Q7, Qy, Qz, QA, QB, Q8, Q4, QC, QD, QE, QF, QG, Q9, QH, QI, QJ, Qa, YV, QK, QL, QM, QN, QO, QP, QQ, QR, QS, QT, QU, QV, QW, QX, Q0, QY, QZ, Z0, Z1, Z2, Z3, Z4, Z5, Z6, Z7, Z8, Z9, Za, Zb, Zd, Ze, Zf, Zg, Zh, Zi, Zj, Zk, Zl, Zm, Zn, Zo, Zp, Zq, Zr, Zs, Zt, Zu, Zv, Zw, Q5, Zx, Zy, Zz, ZA, ZB, ZC, ZD, ZE, ZF, Qb, ZG, ZH, ZI, ZJ, ZK, ZL, ZM, Q6, ZN, ZO, ZP, ZQ, ZR, ZS, ZT, ZU, ZV, ZW, ZX, ZY, ZZ, Y0, Y1, Y2, Y3, Y4, Y5, Y6, Y7, Y8, Y9, Ya, Yb, Yc, Yd, Ye, Yf, Yg, Yh, Yi, Yj, Yk, Yl, Ym, Yn, Yo, Yp, Yq, Yr, Ys, Yt, Yu, Yv, Yw, Yx, Yy, Yz, YA, YB, YC, YD, YE, YF, YG, YH, YI, YJ, YK, YL, YM, YN, YO, Q1, Q2, Qc, YQ, YR, YS, YT, YU, frz, frzAll, peek, res1, resAll, stoAll, argOf, argsOf, bors, wback, outAt, outsFrom, ownsStay, retv, wipeF, unwipe, sto, isNone, tyD, cY, cMul, cMod, cDiv, cPow, Cell.dat, b2n, frzS, frzL, fzV, atI, ixN, fMulL, excOf, frzO, e2, hlt, h0, hq, h18]
  · refine ⟨_, key 0, ?_⟩
    simp [B_box, Q3, Qd, Qe, Qf, Qg, Qh, Qi, Qj, Qk, Ql, Qm, Qn, Qo, Qp, Qq, Qr, Qs, Qt, Qu, Qv, Qw, Qx, Q7, Qy, Qz, QA, QB, Q8, Q4, QC, QD, QE, QF, QG, Q9, QH, QI, QJ, Qa, YV, QK, QL, QM, QN, QO, QP, QQ, QR, QS, QT, QU, QV, QW, QX, Q0, QY, QZ, Z0, Z1, Z2, Z3, Z4, Z5, Z6, Z7, Z8, Z9, Za, Zb, Zd, Ze, Zf, Zg, Zh, Zi, Zj, Zk, Zl, Zm, Zn, Zo, Zp, Zq, Zr, Zs, Zt, Zu, Zv, Zw, Q5, Zx, Zy, Zz, ZA, ZB, ZC, ZD, ZE, ZF, Qb, ZG, ZH, ZI, ZJ, ZK, ZL, ZM, Q6, ZN, ZO, ZP, ZQ, ZR, ZS, ZT, ZU, ZV, ZW, ZX, ZY, ZZ, Y0, Y1, Y2, Y3, Y4, Y5, Y6, Y7, Y8, Y9, Ya, Yb, Yc, Yd, Ye, Yf, Yg, Yh, Yi, Yj, Yk, Yl, Ym, Yn, Yo, Yp, Yq, Yr, Ys, Yt, Yu, Yv, Yw, Yx, Yy, Yz, YA, YB, YC, YD, YE, YF, YG, YH, YI, YJ, YK, YL, YM, YN, YO, Q1, Q2, Qc, YQ, YR, YS, YT, YU, frz, frzAll, peek, res1, resAll, stoAll, argOf, argsOf, bors, wback, outAt, outsFrom, ownsStay, retv, wipeF, unwipe, sto, isNone, tyD, cY, cMul, cMod, cDiv, cPow, Cell.dat, b2n, frzS, frzL, fzV, atI, ixN, fMulL, excOf, frzO, e2, hlt, h0]
end Rf

namespace Rf
open PySem PySem.Spec PyProof.Rows L2
def Sd (s : S0) (d : PyData) : Prop := s = .dat d ∨ ∃ ds, d = .list ds ∧ s = .own (.lst ds)
theorem zip2_self {x : PyData} : ∀ {ds : List PyData}, x ∈ zip2 ds ds → ∃ a ∈ ds, x = .tuple [a, a]
  | [], h => by simp [zip2] at h
  | d :: ds, h => by
    simp only [zip2] at h
    rcases List.mem_cons.1 h with h | h
    · exact ⟨d, by simp, h⟩
    · obtain ⟨a, m, e⟩ := zip2_self h
      exact ⟨a, by simp [m], e⟩
theorem zip2_len2 : ∀ as : List PyData, (zip2 as as).length = as.length
  | [] => by simp [zip2]
  | a :: as => by simp [zip2, zip2_len2 as]
theorem bools_true (ds : List PyData) : boolsD (ds.map fun _ => PyData.bool true) = some (ds.map fun _ => true) := boolsD_map (fun _ => true) ds
def SpSame (l b h : Nat) (D : Dm) : Prop := ∀ (d : PyData) (s t : S0), Ok l b h d → Sd s d → Sd t d → ∃ outs, D [s, t] = some (.dat (.bool true), outs)
theorem eqv_self_str (x : Str) : PyData.eqv (.str x) (.str x) = true := by simp [PyData.eqv]
theorem same_flat {T : Dm} {l b h : Nat} {d : PyData} (o : Ok l b h d) (hd : ∀ ds, d ≠ .list ds ∧ d ≠ .tuple ds) : ∃ outs, B_same T [.dat d, .dat d] = some (.dat (.bool true), outs) := by
  match d, o with
  | .none, _ => exact ⟨_, by simp [B_same, Q3, Qd, Qe, Qf, Qg, Qh, Qi, Qj, Qk, Ql, Qm, Qn, Qo, Qp, Qq, Qr, Qs, Qt, Qu, Qv, Qw, Qx, Q7, Qy, Qz, QA, QB, Q8, Q4, QC, QD, QE, QF, QG, Q9, QH, QI, QJ, Qa, YV, QK, QL, QM, QN, QO, QP, QQ, QR, QS, QT, QU, QV, QW, QX, Q0, QY, QZ, Z0, Z1, Z2, Z3, Z4, Z5, Z6, Z7, Z8, Z9, Za, Zb, Zd, Ze, Zf, Zg, Zh, Zi, Zj, Zk, Zl, Zm, Zn, Zo, Zp, Zq, Zr, Zs, Zt, Zu, Zv, Zw, Q5, Zx, Zy, Zz, ZA, ZB, ZC, ZD, ZE, ZF, Qb, ZG, ZH, ZI, ZJ, ZK, ZL, ZM, Q6, ZN, ZO, ZP, ZQ, ZR, ZS, ZT, ZU, ZV, ZW, ZX, ZY, ZZ, Y0, Y1, Y2, Y3, Y4, Y5, Y6, Y7, Y8, Y9, Ya, Yb, Yc, Yd, Ye, Yf, Yg, Yh, Yi, Yj, Yk, Yl, Ym, Yn, Yo, Yp, Yq, Yr, Ys, Yt, Yu, Yv, Yw, Yx, Yy, Yz, YA, YB, YC, YD, YE, YF, YG, YH, YI, YJ, YK, YL, YM, YN, YO, Q1, Q2, Qc, YQ, YR, YS, YT, YU, frz, frzAll, peek, res1, resAll, stoAll, argOf, argsOf, bors, wback, outAt, outsFrom, ownsStay, retv, wipeF, unwipe, sto, isNone, tyD, cY, cMul, cMod, cDiv, cPow, Cell.dat, b2n, frzS, frzL, fzV, atI, ixN, fMulL, excOf, frzO, PyData.eqv]; rfl⟩
  | .bool t, _ => exact ⟨_, by simp [B_same, Q3, Qd, Qe, Qf, Qg, Qh, Qi, Qj, Qk, Ql, Qm, Qn, Qo, Qp, Qq, Qr, Qs, Qt, Qu, Qv, Qw, Qx, Q7, Qy, Qz, QA, QB, Q8, Q4, QC, QD, QE, QF, QG, Q9, QH, QI, QJ, Qa, YV, QK, QL, QM, QN, QO, QP, QQ, QR, QS, QT, QU, QV, QW, QX, Q0, QY, QZ, Z0, Z1, Z2, Z3, Z4, Z5, Z6, Z7, Z8, Z9, Za, Zb, Zd, Ze, Zf, Zg, Zh, Zi, Zj, Zk, Zl, Zm, Zn, Zo, Zp, Zq, Zr, Zs, Zt, Zu, Zv, Zw, Q5, Zx, Zy, Zz, ZA, ZB, ZC, ZD, ZE, ZF, Qb, ZG, ZH, ZI, ZJ, ZK, ZL, ZM, Q6, ZN, ZO, ZP, ZQ, ZR, ZS, ZT, ZU, ZV, ZW, ZX, ZY, ZZ, Y0, Y1, Y2, Y3, Y4, Y5, Y6, Y7, Y8, Y9, Ya, Yb, Yc, Yd, Ye, Yf, Yg, Yh, Yi, Yj, Yk, Yl, Ym, Yn, Yo, Yp, Yq, Yr, Ys, Yt, Yu, Yv, Yw, Yx, Yy, Yz, YA, YB, YC, YD, YE, YF, YG, YH, YI, YJ, YK, YL, YM, YN, YO, Q1, Q2, Qc, YQ, YR, YS, YT, YU, frz, frzAll, peek, res1, resAll, stoAll, argOf, argsOf, bors, wback, outAt, outsFrom, ownsStay, retv, wipeF, unwipe, sto, isNone, tyD, cY, cMul, cMod, cDiv, cPow, Cell.dat, b2n, frzS, frzL, fzV, atI, ixN, fMulL, excOf, frzO]; rfl⟩
  | .int t, _ => exact ⟨_, by simp [B_same, Q3, Qd, Qe, Qf, Qg, Qh, Qi, Qj, Qk, Ql, Qm, Qn, Qo, Qp, Qq, Qr, Qs, Qt, Qu, Qv, Qw, Qx, Q7, Qy, Qz, QA, QB, Q8, Q4, QC, QD, QE, QF, QG, Q9, QH, QI, QJ, Qa, YV, QK, QL, QM, QN, QO, QP, QQ, QR, QS, QT, QU, QV, QW, QX, Q0, QY, QZ, Z0, Z1, Z2, Z3, Z4, Z5, Z6, Z7, Z8, Z9, Za, Zb, Zd, Ze, Zf, Zg, Zh, Zi, Zj, Zk, Zl, Zm, Zn, Zo, Zp, Zq, Zr, Zs, Zt, Zu, Zv, Zw, Q5, Zx, Zy, Zz, ZA, ZB, ZC, ZD, ZE, ZF, Qb, ZG, ZH, ZI, ZJ, ZK, ZL, ZM, Q6, ZN, ZO, ZP, ZQ, ZR, ZS, ZT, ZU, ZV, ZW, ZX, ZY, ZZ, Y0, Y1, Y2, Y3, Y4, Y5, Y6, Y7, Y8, Y9, Ya, Yb, Yc, Yd, Ye, Yf, Yg, Yh, Yi, Yj, Yk, Yl, Ym, Yn, Yo, Yp, Yq, Yr, Ys, Yt, Yu, Yv, Yw, Yx, Yy, Yz, YA, YB, YC, YD, YE, YF, YG, YH, YI, YJ, YK, YL, YM, YN, YO, Q1, Q2, Qc, YQ, YR, YS, YT, YU, frz, frzAll, peek, res1, resAll, stoAll, argOf, argsOf, bors, wback, outAt, outsFrom, ownsStay, retv, wipeF, unwipe, sto, isNone, tyD, cY, cMul, cMod, cDiv, cPow, Cell.dat, b2n, frzS, frzL, fzV, atI, ixN, fMulL, excOf, frzO]; rfl⟩
  | .str t, o =>
    have h1 : SeqAt.shaped (.str t) = true := Ok.shaped (l := l) (b := b) (h := 0) (by simpa [Ok] using o) (by omega)
    exact ⟨_, by simp [B_same, Q3, Qd, Qe, Qf, Qg, Qh, Qi, Qj, Qk, Ql, Qm, Qn, Qo, Qp, Qq, Qr, Qs, Qt, Qu, Qv, Qw, Qx, Q7, Qy, Qz, QA, QB, Q8, Q4, QC, QD, QE, QF, QG, Q9, QH, QI, QJ, Qa, YV, QK, QL, QM, QN, QO, QP, QQ, QR, QS, QT, QU, QV, QW, QX, Q0, QY, QZ, Z0, Z1, Z2, Z3, Z4, Z5, Z6, Z7, Z8, Z9, Za, Zb, Zd, Ze, Zf, Zg, Zh, Zi, Zj, Zk, Zl, Zm, Zn, Zo, Zp, Zq, Zr, Zs, Zt, Zu, Zv, Zw, Q5, Zx, Zy, Zz, ZA, ZB, ZC, ZD, ZE, ZF, Qb, ZG, ZH, ZI, ZJ, ZK, ZL, ZM, Q6, ZN, ZO, ZP, ZQ, ZR, ZS, ZT, ZU, ZV, ZW, ZX, ZY, ZZ, Y0, Y1, Y2, Y3, Y4, Y5, Y6, Y7, Y8, Y9, Ya, Yb, Yc, Yd, Ye, Yf, Yg, Yh, Yi, Yj, Yk, Yl, Ym, Yn, Yo, Yp, Yq, Yr, Ys, Yt, Yu, Yv, Yw, Yx, Yy, Yz, YA, YB, YC, YD, YE, YF, YG, YH, YI, YJ, YK, YL, YM, YN, YO, Q1, Q2, Qc, YQ, YR, YS, YT, YU, frz, frzAll, peek, res1, resAll, stoAll, argOf, argsOf, bors, wback, outAt, outsFrom, ownsStay, retv, wipeF, unwipe, sto, isNone, tyD, cY, cMul, cMod, cDiv, cPow, Cell.dat, b2n, frzS, frzL, fzV, atI, ixN, fMulL, excOf, frzO, h1, eqv_self_str]; rfl⟩
  | .dict _, o => cases h <;> simp [Ok] at o
  | .list ds, _ => exact absurd rfl (hd ds).1
  | .tuple ds, _ => exact absurd rfl (hd ds).2
theorem same_0 {T : Dm} {l b : Nat} : SpSame l b 0 (B_same T) := by
  intro d s t o hs ht
  have hd : ∀ ds, d ≠ .list ds ∧ d ≠ .tuple ds := fun ds => ⟨fun e => by subst e; simp [Ok] at o, fun e => by subst e; simp [Ok] at o⟩
  rcases hs with rfl | ⟨ds, e, _⟩
  · rcases ht with rfl | ⟨ds, e, _⟩
    · exact same_flat o hd
    · exact absurd e (hd ds).1
  · exact absurd e (hd ds).1
theorem same_S {T : Dm} {l b h : Nat} (hl : l ≤ 1000000) (hT : SpSame l b h T) : SpSame l b (h + 1) (B_same T) := by
  intro d s t o hs ht
  have key : ∀ (ds : List PyData) (a b' : Option S0), ds.length ≤ l → (∀ x ∈ ds, Ok l b h x) → compM (gTupD 2 (gsCons (gSet 2) (gsCons (gSet 3) gsNil))) mYes (mCall T (mFz (mCons (mVar 2) (mCons (mVar 3) mNil)))) [2, 3] (zip2 ds ds) [a, b', none, none] [] = some ((zip2 ds ds).map fun _ => .bool true, [a, b', none, none]) := by
    intro ds a b' h1 h2
    refine comp_all [a, b', none, none] (fun _ => .bool true) (zip2 ds ds) (fun x m => ?_) (by rw [zip2_len2, Q1]; omega)
    obtain ⟨y, hy, rfl⟩ := zip2_self m
    obtain ⟨outs, e⟩ := hT y (.dat y) (.dat y) (h2 y hy) (.inl rfl) (.inl rfl)
    refine ⟨[a, b', some (.dat y), some (.dat y)], .dat (.bool true), [a, b', some (.dat y), some (.dat y)], [a, b', some (.dat y), some (.dat y)], by simp [Q3, Qd, Qe, Qf, Qg, Qh, Qi, Qj, Qk, Ql, Qm, Qn, Qo, Qp, Qq, Qr, Qs, Qt, Qu, Qv, Qw, Qx, Q7, Qy, Qz, QA, QB, Q8, Q4, QC, QD, QE, QF, QG, Q9, QH, QI, QJ, Qa, YV, QK, QL, QM, QN, QO, QP, QQ, QR, QS, QT, QU, QV, QW, QX, Q0, QY, QZ, Z0, Z1, Z2, Z3, Z4, Z5, Z6, Z7, Z8, Z9, Za, Zb, Zd, Ze, Zf, Zg, Zh, Zi, Zj, Zk, Zl, Zm, Zn, Zo, Zp, Zq, Zr, Zs, Zt, Zu, Zv, Zw, Q5, Zx, Zy, Zz, ZA, ZB, ZC, ZD, ZE, ZF, Qb, ZG, ZH, ZI, ZJ, ZK, ZL, ZM, Q6, ZN, ZO, ZP, ZQ, ZR, ZS, ZT, ZU, ZV, ZW, ZX, ZY, ZZ, Y0, Y1, Y2, Y3, Y4, Y5, Y6, Y7, Y8, Y9, Ya, Yb, Yc, Yd, Ye, Yf, Yg, Yh, Yi, Yj, Yk, Yl, Ym, Yn, Yo, Yp, Yq, Yr, Ys, Yt, Yu, Yv, Yw, Yx, Yy, Yz, YA, YB, YC, YD, YE, YF, YG, YH, YI, YJ, YK, YL, YM, YN, YO, Q1, Q2, Qc, YQ, YR, YS, YT, YU, frz, frzAll, peek, res1, resAll, stoAll, argOf, argsOf, bors, wback, outAt, outsFrom, ownsStay, retv, wipeF, unwipe, sto, isNone, tyD, cY, cMul, cMod, cDiv, cPow, Cell.dat, b2n, frzS, frzL, fzV, atI, ixN, fMulL, excOf, frzO], ?_, rfl, by simp [wipeF]⟩
    simp [Q3, Qd, Qe, Qf, Qg, Qh, Qi, Qj, Qk, Ql, Qm, Qn, Qo, Qp, Qq, Qr, Qs, Qt, Qu, Qv, Qw, Qx, Q7, Qy, Qz, QA, QB, Q8, Q4, QC, QD, QE, QF, QG, Q9, QH, QI, QJ, Qa, YV, QK, QL, QM, QN, QO, QP, QQ, QR, QS, QT, QU, QV, QW, QX, Q0, QY, QZ, Z0, Z1, Z2, Z3, Z4, Z5, Z6, Z7, Z8, Z9, Za, Zb, Zd, Ze, Zf, Zg, Zh, Zi, Zj, Zk, Zl, Zm, Zn, Zo, Zp, Zq, Zr, Zs, Zt, Zu, Zv, Zw, Q5, Zx, Zy, Zz, ZA, ZB, ZC, ZD, ZE, ZF, Qb, ZG, ZH, ZI, ZJ, ZK, ZL, ZM, Q6, ZN, ZO, ZP, ZQ, ZR, ZS, ZT, ZU, ZV, ZW, ZX, ZY, ZZ, Y0, Y1, Y2, Y3, Y4, Y5, Y6, Y7, Y8, Y9, Ya, Yb, Yc, Yd, Ye, Yf, Yg, Yh, Yi, Yj, Yk, Yl, Ym, Yn, Yo, Yp, Yq, Yr, Ys, Yt, Yu, Yv, Yw, Yx, Yy, Yz, YA, YB, YC, YD, YE, YF, YG, YH, YI, YJ, YK, YL, YM, YN, YO, Q1, Q2, Qc, YQ, YR, YS, YT, YU, frz, frzAll, peek, res1, resAll, stoAll, argOf, argsOf, bors, wback, outAt, outsFrom, ownsStay, retv, wipeF, unwipe, sto, isNone, tyD, cY, cMul, cMod, cDiv, cPow, Cell.dat, b2n, frzS, frzL, fzV, atI, ixN, fMulL, excOf, frzO, e, wback_d2]
  by_cases hd : ∀ ds, d ≠ .list ds ∧ d ≠ .tuple ds
  · rcases hs with rfl | ⟨ds, e, _⟩
    · rcases ht with rfl | ⟨ds, e, _⟩
      · exact same_flat o hd
      · exact absurd e (hd ds).1
    · exact absurd e (hd ds).1
  · match d, o with
    | .none, _ => exact absurd (fun ds => ⟨(fun e => nomatch e), fun e => nomatch e⟩) hd
    | .bool _, _ => exact absurd (fun ds => ⟨(fun e => nomatch e), fun e => nomatch e⟩) hd
    | .int _, _ => exact absurd (fun ds => ⟨(fun e => nomatch e), fun e => nomatch e⟩) hd
    | .str _, _ => exact absurd (fun ds => ⟨(fun e => nomatch e), fun e => nomatch e⟩) hd
    | .dict _, o => simp [Ok] at o
    | .list ds, o =>
      simp only [Ok] at o
      have k := key ds
      have hb := bools_true (zip2 ds ds)
      rcases hs with rfl | ⟨_, e, rfl⟩
      · rcases ht with rfl | ⟨_, e, rfl⟩
        · exact ⟨_, by simp [B_same, Q3, Qd, Qe, Qf, Qg, Qh, Qi, Qj, Qk, Ql, Qm, Qn, Qo, Qp, Qq, Qr, Qs, Qt, Qu, Qv, Qw, Qx, Q7, Qy, Qz, QA, QB, Q8, Q4, QC, QD, QE, QF, QG, Q9, QH, QI, QJ, Qa, YV, QK, QL, QM, QN, QO, QP, QQ, QR, QS, QT, QU, QV, QW, QX, Q0, QY, QZ, Z0, Z1, Z2, Z3, Z4, Z5, Z6, Z7, Z8, Z9, Za, Zb, Zd, Ze, Zf, Zg, Zh, Zi, Zj, Zk, Zl, Zm, Zn, Zo, Zp, Zq, Zr, Zs, Zt, Zu, Zv, Zw, Q5, Zx, Zy, Zz, ZA, ZB, ZC, ZD, ZE, ZF, Qb, ZG, ZH, ZI, ZJ, ZK, ZL, ZM, Q6, ZN, ZO, ZP, ZQ, ZR, ZS, ZT, ZU, ZV, ZW, ZX, ZY, ZZ, Y0, Y1, Y2, Y3, Y4, Y5, Y6, Y7, Y8, Y9, Ya, Yb, Yc, Yd, Ye, Yf, Yg, Yh, Yi, Yj, Yk, Yl, Ym, Yn, Yo, Yp, Yq, Yr, Ys, Yt, Yu, Yv, Yw, Yx, Yy, Yz, YA, YB, YC, YD, YE, YF, YG, YH, YI, YJ, YK, YL, YM, YN, YO, Q1, Q2, Qc, YQ, YR, YS, YT, YU, frz, frzAll, peek, res1, resAll, stoAll, argOf, argsOf, bors, wback, outAt, outsFrom, ownsStay, retv, wipeF, unwipe, sto, isNone, tyD, cY, cMul, cMod, cDiv, cPow, Cell.dat, b2n, frzS, frzL, fzV, atI, ixN, fMulL, excOf, frzO, k _ _ o.1 o.2, hb]; rfl⟩
        · cases e; exact ⟨_, by simp [B_same, Q3, Qd, Qe, Qf, Qg, Qh, Qi, Qj, Qk, Ql, Qm, Qn, Qo, Qp, Qq, Qr, Qs, Qt, Qu, Qv, Qw, Qx, Q7, Qy, Qz, QA, QB, Q8, Q4, QC, QD, QE, QF, QG, Q9, QH, QI, QJ, Qa, YV, QK, QL, QM, QN, QO, QP, QQ, QR, QS, QT, QU, QV, QW, QX, Q0, QY, QZ, Z0, Z1, Z2, Z3, Z4, Z5, Z6, Z7, Z8, Z9, Za, Zb, Zd, Ze, Zf, Zg, Zh, Zi, Zj, Zk, Zl, Zm, Zn, Zo, Zp, Zq, Zr, Zs, Zt, Zu, Zv, Zw, Q5, Zx, Zy, Zz, ZA, ZB, ZC, ZD, ZE, ZF, Qb, ZG, ZH, ZI, ZJ, ZK, ZL, ZM, Q6, ZN, ZO, ZP, ZQ, ZR, ZS, ZT, ZU, ZV, ZW, ZX, ZY, ZZ, Y0, Y1, Y2, Y3, Y4, Y5, Y6, Y7, Y8, Y9, Ya, Yb, Yc, Yd, Ye, Yf, Yg, Yh, Yi, Yj, Yk, Yl, Ym, Yn, Yo, Yp, Yq, Yr, Ys, Yt, Yu, Yv, Yw, Yx, Yy, Yz, YA, YB, YC, YD, YE, YF, YG, YH, YI, YJ, YK, YL, YM, YN, YO, Q1, Q2, Qc, YQ, YR, YS, YT, YU, frz, frzAll, peek, res1, resAll, stoAll, argOf, argsOf, bors, wback, outAt, outsFrom, ownsStay, retv, wipeF, unwipe, sto, isNone, tyD, cY, cMul, cMod, cDiv, cPow, Cell.dat, b2n, frzS, frzL, fzV, atI, ixN, fMulL, excOf, frzO, k _ _ o.1 o.2, hb]; rfl⟩
      · cases e
        rcases ht with rfl | ⟨_, e, rfl⟩
        · exact ⟨_, by simp [B_same, Q3, Qd, Qe, Qf, Qg, Qh, Qi, Qj, Qk, Ql, Qm, Qn, Qo, Qp, Qq, Qr, Qs, Qt, Qu, Qv, Qw, Qx, Q7, Qy, Qz, QA, QB, Q8, Q4, QC, QD, QE, QF, QG, Q9, QH, QI, QJ, Qa, YV, QK, QL, QM, QN, QO, QP, QQ, QR, QS, QT, QU, QV, QW, QX, Q0, QY, QZ, Z0, Z1, Z2, Z3, Z4, Z5, Z6, Z7, Z8, Z9, Za, Zb, Zd, Ze, Zf, Zg, Zh, Zi, Zj, Zk, Zl, Zm, Zn, Zo, Zp, Zq, Zr, Zs, Zt, Zu, Zv, Zw, Q5, Zx, Zy, Zz, ZA, ZB, ZC, ZD, ZE, ZF, Qb, ZG, ZH, ZI, ZJ, ZK, ZL, ZM, Q6, ZN, ZO, ZP, ZQ, ZR, ZS, ZT, ZU, ZV, ZW, ZX, ZY, ZZ, Y0, Y1, Y2, Y3, Y4, Y5, Y6, Y7, Y8, Y9, Ya, Yb, Yc, Yd, Ye, Yf, Yg, Yh, Yi, Yj, Yk, Yl, Ym, Yn, Yo, Yp, Yq, Yr, Ys, Yt, Yu, Yv, Yw, Yx, Yy, Yz, YA, YB, YC, YD, YE, YF, YG, YH, YI, YJ, YK, YL, YM, YN, YO, Q1, Q2, Qc, YQ, YR, YS, YT, YU, frz, frzAll, peek, res1, resAll, stoAll, argOf, argsOf, bors, wback, outAt, outsFrom, ownsStay, retv, wipeF, unwipe, sto, isNone, tyD, cY, cMul, cMod, cDiv, cPow, Cell.dat, b2n, frzS, frzL, fzV, atI, ixN, fMulL, excOf, frzO, k _ _ o.1 o.2, hb]; rfl⟩
        · cases e; exact ⟨_, by simp [B_same, Q3, Qd, Qe, Qf, Qg, Qh, Qi, Qj, Qk, Ql, Qm, Qn, Qo, Qp, Qq, Qr, Qs, Qt, Qu, Qv, Qw, Qx, Q7, Qy, Qz, QA, QB, Q8, Q4, QC, QD, QE, QF, QG, Q9, QH, QI, QJ, Qa, YV, QK, QL, QM, QN, QO, QP, QQ, QR, QS, QT, QU, QV, QW, QX, Q0, QY, QZ, Z0, Z1, Z2, Z3, Z4, Z5, Z6, Z7, Z8, Z9, Za, Zb, Zd, Ze, Zf, Zg, Zh, Zi, Zj, Zk, Zl, Zm, Zn, Zo, Zp, Zq, Zr, Zs, Zt, Zu, Zv, Zw, Q5, Zx, Zy, Zz, ZA, ZB, ZC, ZD, ZE, ZF, Qb, ZG, ZH, ZI, ZJ, ZK, ZL, ZM, Q6, ZN, ZO, ZP, ZQ, ZR, ZS, ZT, ZU, ZV, ZW, ZX, ZY, ZZ, Y0, Y1, Y2, Y3, Y4, Y5, Y6, Y7, Y8, Y9, Ya, Yb, Yc, Yd, Ye, Yf, Yg, Yh, Yi, Yj, Yk, Yl, Ym, Yn, Yo, Yp, Yq, Yr, Ys, Yt, Yu, Yv, Yw, Yx, Yy, Yz, YA, YB, YC, YD, YE, YF, YG, YH, YI, YJ, YK, YL, YM, YN, YO, Q1, Q2, Qc, YQ, YR, YS, YT, YU, frz, frzAll, peek, res1, resAll, stoAll, argOf, argsOf, bors, wback, outAt, outsFrom, ownsStay, retv, wipeF, unwipe, sto, isNone, tyD, cY, cMul, cMod, cDiv, cPow, Cell.dat, b2n, frzS, frzL, fzV, atI, ixN, fMulL, excOf, frzO, k _ _ o.1 o.2, hb]; rfl⟩
    | .tuple ds, o =>
      simp only [Ok] at o
      have k := key ds
      have hb := bools_true (zip2 ds ds)
      rcases hs with rfl | ⟨_, e, rfl⟩
      · rcases ht with rfl | ⟨_, e, rfl⟩
        · exact ⟨_, by simp [B_same, Q3, Qd, Qe, Qf, Qg, Qh, Qi, Qj, Qk, Ql, Qm, Qn, Qo, Qp, Qq, Qr, Qs, Qt, Qu, Qv, Qw, Qx, Q7, Qy, Qz, QA, QB, Q8, Q4, QC, QD, QE, QF, QG, Q9, QH, QI, QJ, Qa, YV, QK, QL, QM, QN, QO, QP, QQ, QR, QS, QT, QU, QV, QW, QX, Q0, QY, QZ, Z0, Z1, Z2, Z3, Z4, Z5, Z6, Z7, Z8, Z9, Za, Zb, Zd, Ze, Zf, Zg, Zh, Zi, Zj, Zk, Zl, Zm, Zn, Zo, Zp, Zq, Zr, Zs, Zt, Zu, Zv, Zw, Q5, Zx, Zy, Zz, ZA, ZB, ZC, ZD, ZE, ZF, Qb, ZG, ZH, ZI, ZJ, ZK, ZL, ZM, Q6, ZN, ZO, ZP, ZQ, ZR, ZS, ZT, ZU, ZV, ZW, ZX, ZY, ZZ, Y0, Y1, Y2, Y3, Y4, Y5, Y6, Y7, Y8, Y9, Ya, Yb, Yc, Yd, Ye, Yf, Yg, Yh, Yi, Yj, Yk, Yl, Ym, Yn, Yo, Yp, Yq, Yr, Ys, Yt, Yu, Yv, Yw, Yx, Yy, Yz, YA, YB, YC, YD, YE, YF, YG, YH, YI, YJ, YK, YL, YM, YN, YO, Q1, Q2, Qc, YQ, YR, YS, YT, YU, frz, frzAll, peek, res1, resAll, stoAll, argOf, argsOf, bors, wback, outAt, outsFrom, ownsStay, retv, wipeF, unwipe, sto, isNone, tyD, cY, cMul, cMod, cDiv, cPow, Cell.dat, b2n, frzS, frzL, fzV, atI, ixN, fMulL, excOf, frzO, k _ _ o.1 o.2, hb]; rfl⟩
        · cases e
      · cases e
mutual
def lsD : PyData → PyData
  | .list ds => .list (lsA ds)
  | .tuple ds => .list (lsA ds)
  | .none => .none
  | .bool b => .bool b
  | .int i => .int i
  | .str s => .str s
  | .dict e => .dict e
def lsA : List PyData → List PyData
  | [] => []
  | d :: ds => lsD d :: lsA ds
end
theorem lsA_map : ∀ ds : List PyData, lsA ds = ds.map lsD
  | [] => by simp [lsA]
  | d :: ds => by simp [lsA, lsA_map ds]
def SpLists (l b h : Nat) (D : Dm) : Prop := ∀ (d : PyData), Ok l b h d → ∃ v, D [.dat d] = some (v, [.dat d]) ∧ (v = .dat (lsD d) ∨ ∃ ds, v = .fre (.lst ds) ∧ lsD d = .list ds)
theorem lists_0 {T : Dm} {l b : Nat} : SpLists l b 0 (B_lists T) := by
  intro d o
  match d, o with
  | .none, _ => exact ⟨.dat .none, by simp [B_lists, Q3, Qd, Qe, Qf, Qg, Qh, Qi, Qj, Qk, Ql, Qm, Qn, Qo, Qp, Qq, Qr, Qs, Qt, Qu, Qv, Qw, Qx, Q7, Qy, Qz, QA, QB, Q8, Q4, QC, QD, QE, QF, QG, Q9, QH, QI, QJ, Qa, YV, QK, QL, QM, QN, QO, QP, QQ, QR, QS, QT, QU, QV, QW, QX, Q0, QY, QZ, Z0, Z1, Z2, Z3, Z4, Z5, Z6, Z7, Z8, Z9, Za, Zb, Zd, Ze, Zf, Zg, Zh, Zi, Zj, Zk, Zl, Zm, Zn, Zo, Zp, Zq, Zr, Zs, Zt, Zu, Zv, Zw, Q5, Zx, Zy, Zz, ZA, ZB, ZC, ZD, ZE, ZF, Qb, ZG, ZH, ZI, ZJ, ZK, ZL, ZM, Q6, ZN, ZO, ZP, ZQ, ZR, ZS, ZT, ZU, ZV, ZW, ZX, ZY, ZZ, Y0, Y1, Y2, Y3, Y4, Y5, Y6, Y7, Y8, Y9, Ya, Yb, Yc, Yd, Ye, Yf, Yg, Yh, Yi, Yj, Yk, Yl, Ym, Yn, Yo, Yp, Yq, Yr, Ys, Yt, Yu, Yv, Yw, Yx, Yy, Yz, YA, YB, YC, YD, YE, YF, YG, YH, YI, YJ, YK, YL, YM, YN, YO, Q1, Q2, Qc, YQ, YR, YS, YT, YU, frz, frzAll, peek, res1, resAll, stoAll, argOf, argsOf, bors, wback, outAt, outsFrom, ownsStay, retv, wipeF, unwipe, sto, isNone, tyD, cY, cMul, cMod, cDiv, cPow, Cell.dat, b2n, frzS, frzL, fzV, atI, ixN, fMulL, excOf, frzO], .inl (by simp [lsD])⟩
  | .bool t, _ => exact ⟨.dat (.bool t), by simp [B_lists, Q3, Qd, Qe, Qf, Qg, Qh, Qi, Qj, Qk, Ql, Qm, Qn, Qo, Qp, Qq, Qr, Qs, Qt, Qu, Qv, Qw, Qx, Q7, Qy, Qz, QA, QB, Q8, Q4, QC, QD, QE, QF, QG, Q9, QH, QI, QJ, Qa, YV, QK, QL, QM, QN, QO, QP, QQ, QR, QS, QT, QU, QV, QW, QX, Q0, QY, QZ, Z0, Z1, Z2, Z3, Z4, Z5, Z6, Z7, Z8, Z9, Za, Zb, Zd, Ze, Zf, Zg, Zh, Zi, Zj, Zk, Zl, Zm, Zn, Zo, Zp, Zq, Zr, Zs, Zt, Zu, Zv, Zw, Q5, Zx, Zy, Zz, ZA, ZB, ZC, ZD, ZE, ZF, Qb, ZG, ZH, ZI, ZJ, ZK, ZL, ZM, Q6, ZN, ZO, ZP, ZQ, ZR, ZS, ZT, ZU, ZV, ZW, ZX, ZY, ZZ, Y0, Y1, Y2, Y3, Y4, Y5, Y6, Y7, Y8, Y9, Ya, Yb, Yc, Yd, Ye, Yf, Yg, Yh, Yi, Yj, Yk, Yl, Ym, Yn, Yo, Yp, Yq, Yr, Ys, Yt, Yu, Yv, Yw, Yx, Yy, Yz, YA, YB, YC, YD, YE, YF, YG, YH, YI, YJ, YK, YL, YM, YN, YO, Q1, Q2, Qc, YQ, YR, YS, YT, YU, frz, frzAll, peek, res1, resAll, stoAll, argOf, argsOf, bors, wback, outAt, outsFrom, ownsStay, retv, wipeF, unwipe, sto, isNone, tyD, cY, cMul, cMod, cDiv, cPow, Cell.dat, b2n, frzS, frzL, fzV, atI, ixN, fMulL, excOf, frzO], .inl (by simp [lsD])⟩
  | .int t, _ => exact ⟨.dat (.int t), by simp [B_lists, Q3, Qd, Qe, Qf, Qg, Qh, Qi, Qj, Qk, Ql, Qm, Qn, Qo, Qp, Qq, Qr, Qs, Qt, Qu, Qv, Qw, Qx, Q7, Qy, Qz, QA, QB, Q8, Q4, QC, QD, QE, QF, QG, Q9, QH, QI, QJ, Qa, YV, QK, QL, QM, QN, QO, QP, QQ, QR, QS, QT, QU, QV, QW, QX, Q0, QY, QZ, Z0, Z1, Z2, Z3, Z4, Z5, Z6, Z7, Z8, Z9, Za, Zb, Zd, Ze, Zf, Zg, Zh, Zi, Zj, Zk, Zl, Zm, Zn, Zo, Zp, Zq, Zr, Zs, Zt, Zu, Zv, Zw, Q5, Zx, Zy, Zz, ZA, ZB, ZC, ZD, ZE, ZF, Qb, ZG, ZH, ZI, ZJ, ZK, ZL, ZM, Q6, ZN, ZO, ZP, ZQ, ZR, ZS, ZT, ZU, ZV, ZW, ZX, ZY, ZZ, Y0, Y1, Y2, Y3, Y4, Y5, Y6, Y7, Y8, Y9, Ya, Yb, Yc, Yd, Ye, Yf, Yg, Yh, Yi, Yj, Yk, Yl, Ym, Yn, Yo, Yp, Yq, Yr, Ys, Yt, Yu, Yv, Yw, Yx, Yy, Yz, YA, YB, YC, YD, YE, YF, YG, YH, YI, YJ, YK, YL, YM, YN, YO, Q1, Q2, Qc, YQ, YR, YS, YT, YU, frz, frzAll, peek, res1, resAll, stoAll, argOf, argsOf, bors, wback, outAt, outsFrom, ownsStay, retv, wipeF, unwipe, sto, isNone, tyD, cY, cMul, cMod, cDiv, cPow, Cell.dat, b2n, frzS, frzL, fzV, atI, ixN, fMulL, excOf, frzO], .inl (by simp [lsD])⟩
  | .str t, _ => exact ⟨.dat (.str t), by simp [B_lists, Q3, Qd, Qe, Qf, Qg, Qh, Qi, Qj, Qk, Ql, Qm, Qn, Qo, Qp, Qq, Qr, Qs, Qt, Qu, Qv, Qw, Qx, Q7, Qy, Qz, QA, QB, Q8, Q4, QC, QD, QE, QF, QG, Q9, QH, QI, QJ, Qa, YV, QK, QL, QM, QN, QO, QP, QQ, QR, QS, QT, QU, QV, QW, QX, Q0, QY, QZ, Z0, Z1, Z2, Z3, Z4, Z5, Z6, Z7, Z8, Z9, Za, Zb, Zd, Ze, Zf, Zg, Zh, Zi, Zj, Zk, Zl, Zm, Zn, Zo, Zp, Zq, Zr, Zs, Zt, Zu, Zv, Zw, Q5, Zx, Zy, Zz, ZA, ZB, ZC, ZD, ZE, ZF, Qb, ZG, ZH, ZI, ZJ, ZK, ZL, ZM, Q6, ZN, ZO, ZP, ZQ, ZR, ZS, ZT, ZU, ZV, ZW, ZX, ZY, ZZ, Y0, Y1, Y2, Y3, Y4, Y5, Y6, Y7, Y8, Y9, Ya, Yb, Yc, Yd, Ye, Yf, Yg, Yh, Yi, Yj, Yk, Yl, Ym, Yn, Yo, Yp, Yq, Yr, Ys, Yt, Yu, Yv, Yw, Yx, Yy, Yz, YA, YB, YC, YD, YE, YF, YG, YH, YI, YJ, YK, YL, YM, YN, YO, Q1, Q2, Qc, YQ, YR, YS, YT, YU, frz, frzAll, peek, res1, resAll, stoAll, argOf, argsOf, bors, wback, outAt, outsFrom, ownsStay, retv, wipeF, unwipe, sto, isNone, tyD, cY, cMul, cMod, cDiv, cPow, Cell.dat, b2n, frzS, frzL, fzV, atI, ixN, fMulL, excOf, frzO], .inl (by simp [lsD])⟩
  | .dict _, o => simp [Ok] at o
  | .list ds, o => simp [Ok] at o
  | .tuple ds, o => simp [Ok] at o
theorem lists_S {T : Dm} {l b h : Nat} (hl : l ≤ 1000000) (hT : SpLists l b h T) : SpLists l b (h + 1) (B_lists T) := by
  intro d o
  have key : ∀ (ds : List PyData) (a : Option S0), ds.length ≤ l → (∀ x ∈ ds, Ok l b h x) → compM (gSet 1) mYes (mCall T (mFz (mCons (mVar 1) mNil))) [1] ds [a, none] [] = some (ds.map lsD, [a, none]) := by
    intro ds a h1 h2
    refine comp_all [a, none] lsD ds (fun x m => ?_) (by rw [Q1]; omega)
    obtain ⟨v, e, hv⟩ := hT x (h2 x m)
    refine ⟨[a, some (.dat x)], v, [a, some (.dat x)], [a, some (.dat x)], by simp [Q3, Qd, Qe, Qf, Qg, Qh, Qi, Qj, Qk, Ql, Qm, Qn, Qo, Qp, Qq, Qr, Qs, Qt, Qu, Qv, Qw, Qx, Q7, Qy, Qz, QA, QB, Q8, Q4, QC, QD, QE, QF, QG, Q9, QH, QI, QJ, Qa, YV, QK, QL, QM, QN, QO, QP, QQ, QR, QS, QT, QU, QV, QW, QX, Q0, QY, QZ, Z0, Z1, Z2, Z3, Z4, Z5, Z6, Z7, Z8, Z9, Za, Zb, Zd, Ze, Zf, Zg, Zh, Zi, Zj, Zk, Zl, Zm, Zn, Zo, Zp, Zq, Zr, Zs, Zt, Zu, Zv, Zw, Q5, Zx, Zy, Zz, ZA, ZB, ZC, ZD, ZE, ZF, Qb, ZG, ZH, ZI, ZJ, ZK, ZL, ZM, Q6, ZN, ZO, ZP, ZQ, ZR, ZS, ZT, ZU, ZV, ZW, ZX, ZY, ZZ, Y0, Y1, Y2, Y3, Y4, Y5, Y6, Y7, Y8, Y9, Ya, Yb, Yc, Yd, Ye, Yf, Yg, Yh, Yi, Yj, Yk, Yl, Ym, Yn, Yo, Yp, Yq, Yr, Ys, Yt, Yu, Yv, Yw, Yx, Yy, Yz, YA, YB, YC, YD, YE, YF, YG, YH, YI, YJ, YK, YL, YM, YN, YO, Q1, Q2, Qc, YQ, YR, YS, YT, YU, frz, frzAll, peek, res1, resAll, stoAll, argOf, argsOf, bors, wback, outAt, outsFrom, ownsStay, retv, wipeF, unwipe, sto, isNone, tyD, cY, cMul, cMod, cDiv, cPow, Cell.dat, b2n, frzS, frzL, fzV, atI, ixN, fMulL, excOf, frzO], ?_, ?_, by simp [wipeF]⟩
    · rcases hv with rfl | ⟨ds, rfl, _⟩
      · simp [Q3, Qd, Qe, Qf, Qg, Qh, Qi, Qj, Qk, Ql, Qm, Qn, Qo, Qp, Qq, Qr, Qs, Qt, Qu, Qv, Qw, Qx, Q7, Qy, Qz, QA, QB, Q8, Q4, QC, QD, QE, QF, QG, Q9, QH, QI, QJ, Qa, YV, QK, QL, QM, QN, QO, QP, QQ, QR, QS, QT, QU, QV, QW, QX, Q0, QY, QZ, Z0, Z1, Z2, Z3, Z4, Z5, Z6, Z7, Z8, Z9, Za, Zb, Zd, Ze, Zf, Zg, Zh, Zi, Zj, Zk, Zl, Zm, Zn, Zo, Zp, Zq, Zr, Zs, Zt, Zu, Zv, Zw, Q5, Zx, Zy, Zz, ZA, ZB, ZC, ZD, ZE, ZF, Qb, ZG, ZH, ZI, ZJ, ZK, ZL, ZM, Q6, ZN, ZO, ZP, ZQ, ZR, ZS, ZT, ZU, ZV, ZW, ZX, ZY, ZZ, Y0, Y1, Y2, Y3, Y4, Y5, Y6, Y7, Y8, Y9, Ya, Yb, Yc, Yd, Ye, Yf, Yg, Yh, Yi, Yj, Yk, Yl, Ym, Yn, Yo, Yp, Yq, Yr, Ys, Yt, Yu, Yv, Yw, Yx, Yy, Yz, YA, YB, YC, YD, YE, YF, YG, YH, YI, YJ, YK, YL, YM, YN, YO, Q1, Q2, Qc, YQ, YR, YS, YT, YU, frz, frzAll, peek, res1, resAll, stoAll, argOf, argsOf, bors, wback, outAt, outsFrom, ownsStay, retv, wipeF, unwipe, sto, isNone, tyD, cY, cMul, cMod, cDiv, cPow, Cell.dat, b2n, frzS, frzL, fzV, atI, ixN, fMulL, excOf, frzO, e]
      · simp [Q3, Qd, Qe, Qf, Qg, Qh, Qi, Qj, Qk, Ql, Qm, Qn, Qo, Qp, Qq, Qr, Qs, Qt, Qu, Qv, Qw, Qx, Q7, Qy, Qz, QA, QB, Q8, Q4, QC, QD, QE, QF, QG, Q9, QH, QI, QJ, Qa, YV, QK, QL, QM, QN, QO, QP, QQ, QR, QS, QT, QU, QV, QW, QX, Q0, QY, QZ, Z0, Z1, Z2, Z3, Z4, Z5, Z6, Z7, Z8, Z9, Za, Zb, Zd, Ze, Zf, Zg, Zh, Zi, Zj, Zk, Zl, Zm, Zn, Zo, Zp, Zq, Zr, Zs, Zt, Zu, Zv, Zw, Q5, Zx, Zy, Zz, ZA, ZB, ZC, ZD, ZE, ZF, Qb, ZG, ZH, ZI, ZJ, ZK, ZL, ZM, Q6, ZN, ZO, ZP, ZQ, ZR, ZS, ZT, ZU, ZV, ZW, ZX, ZY, ZZ, Y0, Y1, Y2, Y3, Y4, Y5, Y6, Y7, Y8, Y9, Ya, Yb, Yc, Yd, Ye, Yf, Yg, Yh, Yi, Yj, Yk, Yl, Ym, Yn, Yo, Yp, Yq, Yr, Ys, Yt, Yu, Yv, Yw, Yx, Yy, Yz, YA, YB, YC, YD, YE, YF, YG, YH, YI, YJ, YK, YL, YM, YN, YO, Q1, Q2, Qc, YQ, YR, YS, YT, YU, frz, frzAll, peek, res1, resAll, stoAll, argOf, argsOf, bors, wback, outAt, outsFrom, ownsStay, retv, wipeF, unwipe, sto, isNone, tyD, cY, cMul, cMod, cDiv, cPow, Cell.dat, b2n, frzS, frzL, fzV, atI, ixN, fMulL, excOf, frzO, e]
    · rcases hv with rfl | ⟨ds, rfl, e2⟩
      · simp [frz]
      · simp [frz, Cell.dat, e2]
  match d, o with
  | .none, _ => exact ⟨.dat .none, by simp [B_lists, Q3, Qd, Qe, Qf, Qg, Qh, Qi, Qj, Qk, Ql, Qm, Qn, Qo, Qp, Qq, Qr, Qs, Qt, Qu, Qv, Qw, Qx, Q7, Qy, Qz, QA, QB, Q8, Q4, QC, QD, QE, QF, QG, Q9, QH, QI, QJ, Qa, YV, QK, QL, QM, QN, QO, QP, QQ, QR, QS, QT, QU, QV, QW, QX, Q0, QY, QZ, Z0, Z1, Z2, Z3, Z4, Z5, Z6, Z7, Z8, Z9, Za, Zb, Zd, Ze, Zf, Zg, Zh, Zi, Zj, Zk, Zl, Zm, Zn, Zo, Zp, Zq, Zr, Zs, Zt, Zu, Zv, Zw, Q5, Zx, Zy, Zz, ZA, ZB, ZC, ZD, ZE, ZF, Qb, ZG, ZH, ZI, ZJ, ZK, ZL, ZM, Q6, ZN, ZO, ZP, ZQ, ZR, ZS, ZT, ZU, ZV, ZW, ZX, ZY, ZZ, Y0, Y1, Y2, Y3, Y4, Y5, Y6, Y7, Y8, Y9, Ya, Yb, Yc, Yd, Ye, Yf, Yg, Yh, Yi, Yj, Yk, Yl, Ym, Yn, Yo, Yp, Yq, Yr, Ys, Yt, Yu, Yv, Yw, Yx, Yy, Yz, YA, YB, YC, YD, YE, YF, YG, YH, YI, YJ, YK, YL, YM, YN, YO, Q1, Q2, Qc, YQ, YR, YS, YT, YU, frz, frzAll, peek, res1, resAll, stoAll, argOf, argsOf, bors, wback, outAt, outsFrom, ownsStay, retv, wipeF, unwipe, sto, isNone, tyD, cY, cMul, cMod, cDiv, cPow, Cell.dat, b2n, frzS, frzL, fzV, atI, ixN, fMulL, excOf, frzO], .inl (by simp [lsD])⟩
  | .bool t, _ => exact ⟨.dat (.bool t), by simp [B_lists, Q3, Qd, Qe, Qf, Qg, Qh, Qi, Qj, Qk, Ql, Qm, Qn, Qo, Qp, Qq, Qr, Qs, Qt, Qu, Qv, Qw, Qx, Q7, Qy, Qz, QA, QB, Q8, Q4, QC, QD, QE, QF, QG, Q9, QH, QI, QJ, Qa, YV, QK, QL, QM, QN, QO, QP, QQ, QR, QS, QT, QU, QV, QW, QX, Q0, QY, QZ, Z0, Z1, Z2, Z3, Z4, Z5, Z6, Z7, Z8, Z9, Za, Zb, Zd, Ze, Zf, Zg, Zh, Zi, Zj, Zk, Zl, Zm, Zn, Zo, Zp, Zq, Zr, Zs, Zt, Zu, Zv, Zw, Q5, Zx, Zy, Zz, ZA, ZB, ZC, ZD, ZE, ZF, Qb, ZG, ZH, ZI, ZJ, ZK, ZL, ZM, Q6, ZN, ZO, ZP, ZQ, ZR, ZS, ZT, ZU, ZV, ZW, ZX, ZY, ZZ, Y0, Y1, Y2, Y3, Y4, Y5, Y6, Y7, Y8, Y9, Ya, Yb, Yc, Yd, Ye, Yf, Yg, Yh, Yi, Yj, Yk, Yl, Ym, Yn, Yo, Yp, Yq, Yr, Ys, Yt, Yu, Yv, Yw, Yx, Yy, Yz, YA, YB, YC, YD, YE, YF, YG, YH, YI, YJ, YK, YL, YM, YN, YO, Q1, Q2, Qc, YQ, YR, YS, YT, YU, frz, frzAll, peek, res1, resAll, stoAll, argOf, argsOf, bors, wback, outAt, outsFrom, ownsStay, retv, wipeF, unwipe, sto, isNone, tyD, cY, cMul, cMod, cDiv, cPow, Cell.dat, b2n, frzS, frzL, fzV, atI, ixN, fMulL, excOf, frzO], .inl (by simp [lsD])⟩
  | .int t, _ => exact ⟨.dat (.int t), by simp [B_lists, Q3, Qd, Qe, Qf, Qg, Qh, Qi, Qj, Qk, Ql, Qm, Qn, Qo, Qp, Qq, Qr, Qs, Qt, Qu, Qv, Qw, Qx, Q7, Qy, Qz, QA, QB, Q8, Q4, QC, QD, QE, QF, QG, Q9, QH, QI, QJ, Qa, YV, QK, QL, QM, QN, QO, QP, QQ, QR, QS, QT, QU, QV, QW, QX, Q0, QY, QZ, Z0, Z1, Z2, Z3, Z4, Z5, Z6, Z7, Z8, Z9, Za, Zb, Zd, Ze, Zf, Zg, Zh, Zi, Zj, Zk, Zl, Zm, Zn, Zo, Zp, Zq, Zr, Zs, Zt, Zu, Zv, Zw, Q5, Zx, Zy, Zz, ZA, ZB, ZC, ZD, ZE, ZF, Qb, ZG, ZH, ZI, ZJ, ZK, ZL, ZM, Q6, ZN, ZO, ZP, ZQ, ZR, ZS, ZT, ZU, ZV, ZW, ZX, ZY, ZZ, Y0, Y1, Y2, Y3, Y4, Y5, Y6, Y7, Y8, Y9, Ya, Yb, Yc, Yd, Ye, Yf, Yg, Yh, Yi, Yj, Yk, Yl, Ym, Yn, Yo, Yp, Yq, Yr, Ys, Yt, Yu, Yv, Yw, Yx, Yy, Yz, YA, YB, YC, YD, YE, YF, YG, YH, YI, YJ, YK, YL, YM, YN, YO, Q1, Q2, Qc, YQ, YR, YS, YT, YU, frz, frzAll, peek, res1, resAll, stoAll, argOf, argsOf, bors, wback, outAt, outsFrom, ownsStay, retv, wipeF, unwipe, sto, isNone, tyD, cY, cMul, cMod, cDiv, cPow, Cell.dat, b2n, frzS, frzL, fzV, atI, ixN, fMulL, excOf, frzO], .inl (by simp [lsD])⟩
  | .str t, _ => exact ⟨.dat (.str t), by simp [B_lists, Q3, Qd, Qe, Qf, Qg, Qh, Qi, Qj, Qk, Ql, Qm, Qn, Qo, Qp, Qq, Qr, Qs, Qt, Qu, Qv, Qw, Qx, Q7, Qy, Qz, QA, QB, Q8, Q4, QC, QD, QE, QF, QG, Q9, QH, QI, QJ, Qa, YV, QK, QL, QM, QN, QO, QP, QQ, QR, QS, QT, QU, QV, QW, QX, Q0, QY, QZ, Z0, Z1, Z2, Z3, Z4, Z5, Z6, Z7, Z8, Z9, Za, Zb, Zd, Ze, Zf, Zg, Zh, Zi, Zj, Zk, Zl, Zm, Zn, Zo, Zp, Zq, Zr, Zs, Zt, Zu, Zv, Zw, Q5, Zx, Zy, Zz, ZA, ZB, ZC, ZD, ZE, ZF, Qb, ZG, ZH, ZI, ZJ, ZK, ZL, ZM, Q6, ZN, ZO, ZP, ZQ, ZR, ZS, ZT, ZU, ZV, ZW, ZX, ZY, ZZ, Y0, Y1, Y2, Y3, Y4, Y5, Y6, Y7, Y8, Y9, Ya, Yb, Yc, Yd, Ye, Yf, Yg, Yh, Yi, Yj, Yk, Yl, Ym, Yn, Yo, Yp, Yq, Yr, Ys, Yt, Yu, Yv, Yw, Yx, Yy, Yz, YA, YB, YC, YD, YE, YF, YG, YH, YI, YJ, YK, YL, YM, YN, YO, Q1, Q2, Qc, YQ, YR, YS, YT, YU, frz, frzAll, peek, res1, resAll, stoAll, argOf, argsOf, bors, wback, outAt, outsFrom, ownsStay, retv, wipeF, unwipe, sto, isNone, tyD, cY, cMul, cMod, cDiv, cPow, Cell.dat, b2n, frzS, frzL, fzV, atI, ixN, fMulL, excOf, frzO], .inl (by simp [lsD])⟩
  | .dict _, o => simp [Ok] at o
  | .list ds, o =>
    simp only [Ok] at o
    exact ⟨.fre (.lst (ds.map lsD)), by simp [B_lists, Q3, Qd, Qe, Qf, Qg, Qh, Qi, Qj, Qk, Ql, Qm, Qn, Qo, Qp, Qq, Qr, Qs, Qt, Qu, Qv, Qw, Qx, Q7, Qy, Qz, QA, QB, Q8, Q4, QC, QD, QE, QF, QG, Q9, QH, QI, QJ, Qa, YV, QK, QL, QM, QN, QO, QP, QQ, QR, QS, QT, QU, QV, QW, QX, Q0, QY, QZ, Z0, Z1, Z2, Z3, Z4, Z5, Z6, Z7, Z8, Z9, Za, Zb, Zd, Ze, Zf, Zg, Zh, Zi, Zj, Zk, Zl, Zm, Zn, Zo, Zp, Zq, Zr, Zs, Zt, Zu, Zv, Zw, Q5, Zx, Zy, Zz, ZA, ZB, ZC, ZD, ZE, ZF, Qb, ZG, ZH, ZI, ZJ, ZK, ZL, ZM, Q6, ZN, ZO, ZP, ZQ, ZR, ZS, ZT, ZU, ZV, ZW, ZX, ZY, ZZ, Y0, Y1, Y2, Y3, Y4, Y5, Y6, Y7, Y8, Y9, Ya, Yb, Yc, Yd, Ye, Yf, Yg, Yh, Yi, Yj, Yk, Yl, Ym, Yn, Yo, Yp, Yq, Yr, Ys, Yt, Yu, Yv, Yw, Yx, Yy, Yz, YA, YB, YC, YD, YE, YF, YG, YH, YI, YJ, YK, YL, YM, YN, YO, Q1, Q2, Qc, YQ, YR, YS, YT, YU, frz, frzAll, peek, res1, resAll, stoAll, argOf, argsOf, bors, wback, outAt, outsFrom, ownsStay, retv, wipeF, unwipe, sto, isNone, tyD, cY, cMul, cMod, cDiv, cPow, Cell.dat, b2n, frzS, frzL, fzV, atI, ixN, fMulL, excOf, frzO, key _ _ o.1 o.2], .inr ⟨_, rfl, by simp [lsD, lsA_map]⟩⟩
  | .tuple ds, o =>
    simp only [Ok] at o
    exact ⟨.fre (.lst (ds.map lsD)), by simp [B_lists, Q3, Qd, Qe, Qf, Qg, Qh, Qi, Qj, Qk, Ql, Qm, Qn, Qo, Qp, Qq, Qr, Qs, Qt, Qu, Qv, Qw, Qx, Q7, Qy, Qz, QA, QB, Q8, Q4, QC, QD, QE, QF, QG, Q9, QH, QI, QJ, Qa, YV, QK, QL, QM, QN, QO, QP, QQ, QR, QS, QT, QU, QV, QW, QX, Q0, QY, QZ, Z0, Z1, Z2, Z3, Z4, Z5, Z6, Z7, Z8, Z9, Za, Zb, Zd, Ze, Zf, Zg, Zh, Zi, Zj, Zk, Zl, Zm, Zn, Zo, Zp, Zq, Zr, Zs, Zt, Zu, Zv, Zw, Q5, Zx, Zy, Zz, ZA, ZB, ZC, ZD, ZE, ZF, Qb, ZG, ZH, ZI, ZJ, ZK, ZL, ZM, Q6, ZN, ZO, ZP, ZQ, ZR, ZS, ZT, ZU, ZV, ZW, ZX, ZY, ZZ, Y0, Y1, Y2, Y3, Y4, Y5, Y6, Y7, Y8, Y9, Ya, Yb, Yc, Yd, Ye, Yf, Yg, Yh, Yi, Yj, Yk, Yl, Ym, Yn, Yo, Yp, Yq, Yr, Ys, Yt, Yu, Yv, Yw, Yx, Yy, Yz, YA, YB, YC, YD, YE, YF, YG, YH, YI, YJ, YK, YL, YM, YN, YO, Q1, Q2, Qc, YQ, YR, YS, YT, YU, frz, frzAll, peek, res1, resAll, stoAll, argOf, argsOf, bors, wback, outAt, outsFrom, ownsStay, retv, wipeF, unwipe, sto, isNone, tyD, cY, cMul, cMod, cDiv, cPow, Cell.dat, b2n, frzS, frzL, fzV, atI, ixN, fMulL, excOf, frzO, key _ _ o.1 o.2], .inr ⟨_, rfl, by simp [lsD, lsA_map]⟩⟩
end Rf

namespace Rf
open PySem PySem.Spec PyProof.Rows L2
theorem asc_app {t : Int} : ∀ {gs : List Int}, asc gs = true → (∀ x ∈ gs, x < t) → asc (gs ++ [t]) = true
  | [], _, _ => rfl
  | [x], _, h => by simp [asc]; exact h x (by simp)
  | x :: y :: r, a, h => by
    simp only [asc, Bool.and_eq_true, decide_eq_true_eq] at a
    have ih := asc_app (t := t) (gs := y :: r) a.2 fun z m => h z (List.mem_cons_of_mem _ m)
    simp only [List.cons_append] at ih ⊢
    simp only [asc, Bool.and_eq_true, decide_eq_true_eq]
    exact ⟨a.1, ih⟩
theorem asc_pair : ∀ {gs : List Int}, asc gs = true → gs.Pairwise (· < ·)
  | [], _ => .nil
  | [x], _ => by simp
  | x :: y :: r, a => by
    simp only [asc, Bool.and_eq_true, decide_eq_true_eq] at a
    have ih := asc_pair (gs := y :: r) a.2
    refine List.Pairwise.cons (fun z m => ?_) ih
    rcases List.mem_cons.1 m with rfl | m
    · exact a.1
    · have := (List.pairwise_cons.1 ih).1 z m; omega
theorem asc_le {gs : List Int} {i j : Nat} (hj : j < gs.length) (h : i ≤ j) (a : asc gs = true) : gs[i] ≤ gs[j] := by
  rcases Nat.lt_or_eq_of_le h with h | rfl
  · exact Int.le_of_lt (List.pairwise_iff_getElem.1 (asc_pair a) i j (by omega) hj h)
  · exact Int.le_refl _
theorem nodup_of_asc {gs : List Int} (a : asc gs = true) : gs.Nodup := (asc_pair a).imp fun h => by omega
abbrev dI (l : List Int) : List PyData := l.map PyData.int
def dPair (p : Int × Int) : PyData := .tuple [.int p.1, .int p.2]
theorem ints_get {lo : Int} {n j : Nat} {d : PyData} (h : (Rf.intsFrom lo n)[j]? = some d) : d = .int (lo + (j : Nat)) ∧ j < n := by
  unfold Rf.intsFrom at h
  rw [List.getElem?_map] at h
  obtain ⟨k, hk, rfl⟩ := Option.map_eq_some_iff.1 h
  obtain ⟨h1, h2⟩ := List.getElem?_eq_some_iff.1 hk
  simp at h1 h2
  subst h2
  exact ⟨rfl, h1⟩
theorem ints_get0 {n j : Nat} {d : PyData} (h : (Rf.intsFrom 0 n)[j]? = some d) : d = .int (j : Nat) ∧ j < n := by
  obtain ⟨h1, h2⟩ := ints_get h
  rw [Int.zero_add] at h1
  exact ⟨h1, h2⟩
theorem ints_len {lo : Int} {n : Nat} : (Rf.intsFrom lo n).length = n := by simp [Rf.intsFrom]
def SpGauges (D : Dm) : Prop := ∀ (C T : Int) (s : S0), Bx C s → C + 30 ≤ BC → 0 ≤ T → T ≤ 12 → Ev D [s, .dat (.int T)] fun r outs => ∃ gs s', r = .dat (.tuple (dI gs)) ∧ outs = [s', .dat (.int T)] ∧ Bx (C + 14) s' ∧ (gs.length : Int) = T ∧ asc gs = true ∧ ∀ x ∈ gs, 1 ≤ x ∧ x ≤ 200000000
def GI (C T g : Int) (k : Nat) (fm : Fm) : Prop := ∃ s t x2 gs, fm = [some s, some (.dat (.int T)), x2, some (.dat (.int g)), some (.dat (.int t)), some (.own (.lst (dI gs)))] ∧ Bx (C + 2 + k) s ∧ gs.length = k ∧ asc gs = true ∧ (∀ x ∈ gs, 1 ≤ x ∧ x ≤ t) ∧ 0 ≤ t ∧ t ≤ 2 + k * 10000001
theorem sp_gauges {P Tk : Dm} (hP : SpPick P) (hT : SpTake Tk) : SpGauges (B_gauges P Tk) := by
  intro C T s hs hC h0 hT12
  have hC' : C + 30 ≤ 100000000 := hC
  obtain ⟨g, s1, hg, a1, a2⟩ := hP C s (.dat (.list [.int 1, .int 1, .int 3, .int 10000000])) [.int 1, .int 1, .int 3, .int 10000000] (.inr (.inl rfl)) hs (by show C ≤ 100000000; omega) (by simp) (by simp)
  obtain ⟨g, rfl, hg1, hg2⟩ : ∃ g' : Int, g = .int g' ∧ 1 ≤ g' ∧ g' ≤ 10000000 := by
    simp only [List.mem_cons, List.not_mem_nil, or_false] at hg
    rcases hg with rfl | rfl | rfl | rfl
    · exact ⟨1, rfl, by omega, by omega⟩
    · exact ⟨1, rfl, by omega, by omega⟩
    · exact ⟨3, rfl, by omega, by omega⟩
    · exact ⟨10000000, rfl, by omega, by omega⟩
  obtain ⟨t0, s2, b1, b2, b3, b4⟩ := hT (C + 1) 3 s1 a1 (by show C + 1 ≤ 100000000; omega) (by omega) (by omega)
  obtain ⟨q, rfl⟩ := hs.own
  obtain ⟨q1, rfl⟩ := a1.own
  obtain ⟨q2, rfl⟩ := b3.own
  have w1 : -4611686018427387904 ≤ T := by omega
  have w2 : T < 4611686018427387904 := by omega
  refine mkD_wp rfl (wp_gh (by simp [Q3, Qd, Qe, Qf, Qg, Qh, Qi, Qj, Qk, Ql, Qm, Qn, Qo, Qp, Qq, Qr, Qs, Qt, Qu, Qv, Qw, Qx, Q7, Qy, Qz, QA, QB, Q8, Q4, QC, QD, QE, QF, QG, Q9, QH, QI, QJ, Qa, YV, QK, QL, QM, QN, QO, QP, QQ, QR, QS, QT, QU, QV, QW, QX, Q0, QY, QZ, Z0, Z1, Z2, Z3, Z4, Z5, Z6, Z7, Z8, Z9, Za, Zb, Zd, Ze, Zf, Zg, Zh, Zi, Zj, Zk, Zl, Zm, Zn, Zo, Zp, Zq, Zr, Zs, Zt, Zu, Zv, Zw, Q5, Zx, Zy, Zz, ZA, ZB, ZC, ZD, ZE, ZF, Qb, ZG, ZH, ZI, ZJ, ZK, ZL, ZM, Q6, ZN, ZO, ZP, ZQ, ZR, ZS, ZT, ZU, ZV, ZW, ZX, ZY, ZZ, Y0, Y1, Y2, Y3, Y4, Y5, Y6, Y7, Y8, Y9, Ya, Yb, Yc, Yd, Ye, Yf, Yg, Yh, Yi, Yj, Yk, Yl, Ym, Yn, Yo, Yp, Yq, Yr, Ys, Yt, Yu, Yv, Yw, Yx, Yy, Yz, YA, YB, YC, YD, YE, YF, YG, YH, YI, YJ, YK, YL, YM, YN, YO, Q1, Q2, Qc, YQ, YR, YS, YT, YU, frz, frzAll, peek, res1, resAll, stoAll, argOf, argsOf, bors, wback, outAt, outsFrom, ownsStay, retv, wipeF, unwipe, sto, isNone, tyD, cY, cMul, cMod, cDiv, cPow, Cell.dat, b2n, frzS, frzL, fzV, atI, ixN, fMulL, excOf, frzO, a2, b4]; (try first | rfl | exact ⟨rfl, rfl⟩ | exact ⟨rfl, rfl, rfl⟩ | exact ⟨rfl, rfl, rfl, rfl⟩ | exact ⟨rfl, rfl, rfl, rfl, rfl⟩)) (wp_seq (wp_for (GI C T g) (by simp [Q3, Qd, Qe, Qf, Qg, Qh, Qi, Qj, Qk, Ql, Qm, Qn, Qo, Qp, Qq, Qr, Qs, Qt, Qu, Qv, Qw, Qx, Q7, Qy, Qz, QA, QB, Q8, Q4, QC, QD, QE, QF, QG, Q9, QH, QI, QJ, Qa, YV, QK, QL, QM, QN, QO, QP, QQ, QR, QS, QT, QU, QV, QW, QX, Q0, QY, QZ, Z0, Z1, Z2, Z3, Z4, Z5, Z6, Z7, Z8, Z9, Za, Zb, Zd, Ze, Zf, Zg, Zh, Zi, Zj, Zk, Zl, Zm, Zn, Zo, Zp, Zq, Zr, Zs, Zt, Zu, Zv, Zw, Q5, Zx, Zy, Zz, ZA, ZB, ZC, ZD, ZE, ZF, Qb, ZG, ZH, ZI, ZJ, ZK, ZL, ZM, Q6, ZN, ZO, ZP, ZQ, ZR, ZS, ZT, ZU, ZV, ZW, ZX, ZY, ZZ, Y0, Y1, Y2, Y3, Y4, Y5, Y6, Y7, Y8, Y9, Ya, Yb, Yc, Yd, Ye, Yf, Yg, Yh, Yi, Yj, Yk, Yl, Ym, Yn, Yo, Yp, Yq, Yr, Ys, Yt, Yu, Yv, Yw, Yx, Yy, Yz, YA, YB, YC, YD, YE, YF, YG, YH, YI, YJ, YK, YL, YM, YN, YO, Q1, Q2, Qc, YQ, YR, YS, YT, YU, frz, frzAll, peek, res1, resAll, stoAll, argOf, argsOf, bors, wback, outAt, outsFrom, ownsStay, retv, wipeF, unwipe, sto, isNone, tyD, cY, cMul, cMod, cDiv, cPow, Cell.dat, b2n, frzS, frzL, fzV, atI, ixN, fMulL, excOf, frzO, w1, w2]; (try first | rfl | exact ⟨rfl, rfl⟩ | exact ⟨rfl, rfl, rfl⟩ | exact ⟨rfl, rfl, rfl, rfl⟩ | exact ⟨rfl, rfl, rfl, rfl, rfl⟩)) ⟨_, t0, none, [], rfl, b3.mono (by omega), rfl, rfl, by simp, b1, by omega⟩ ?_ ?_)))
  · intro j d m fm i
    obtain ⟨rfl, hj⟩ := ints_get m
    obtain ⟨s, t, x2, gs, rfl, i1, i2, i3, i4, i5, i6⟩ := i
    obtain ⟨r, s', c1, c2, c3, c4⟩ := hT _ g s i1 (by show _ ≤ (100000000 : Int); omega) (by omega) (by omega)
    obtain ⟨q3, rfl⟩ := i1.own
    obtain ⟨q4, rfl⟩ := c3.own
    have hq : gs.length < 16777216 := by omega
    refine ⟨_, rfl, wp_is (by simp [Q3, Qd, Qe, Qf, Qg, Qh, Qi, Qj, Qk, Ql, Qm, Qn, Qo, Qp, Qq, Qr, Qs, Qt, Qu, Qv, Qw, Qx, Q7, Qy, Qz, QA, QB, Q8, Q4, QC, QD, QE, QF, QG, Q9, QH, QI, QJ, Qa, YV, QK, QL, QM, QN, QO, QP, QQ, QR, QS, QT, QU, QV, QW, QX, Q0, QY, QZ, Z0, Z1, Z2, Z3, Z4, Z5, Z6, Z7, Z8, Z9, Za, Zb, Zd, Ze, Zf, Zg, Zh, Zi, Zj, Zk, Zl, Zm, Zn, Zo, Zp, Zq, Zr, Zs, Zt, Zu, Zv, Zw, Q5, Zx, Zy, Zz, ZA, ZB, ZC, ZD, ZE, ZF, Qb, ZG, ZH, ZI, ZJ, ZK, ZL, ZM, Q6, ZN, ZO, ZP, ZQ, ZR, ZS, ZT, ZU, ZV, ZW, ZX, ZY, ZZ, Y0, Y1, Y2, Y3, Y4, Y5, Y6, Y7, Y8, Y9, Ya, Yb, Yc, Yd, Ye, Yf, Yg, Yh, Yi, Yj, Yk, Yl, Ym, Yn, Yo, Yp, Yq, Yr, Ys, Yt, Yu, Yv, Yw, Yx, Yy, Yz, YA, YB, YC, YD, YE, YF, YG, YH, YI, YJ, YK, YL, YM, YN, YO, Q1, Q2, Qc, YQ, YR, YS, YT, YU, frz, frzAll, peek, res1, resAll, stoAll, argOf, argsOf, bors, wback, outAt, outsFrom, ownsStay, retv, wipeF, unwipe, sto, isNone, tyD, cY, cMul, cMod, cDiv, cPow, Cell.dat, b2n, frzS, frzL, fzV, atI, ixN, fMulL, excOf, frzO, c4, hq]; (try first | rfl | exact ⟨rfl, rfl⟩ | exact ⟨rfl, rfl, rfl⟩ | exact ⟨rfl, rfl, rfl, rfl⟩ | exact ⟨rfl, rfl, rfl, rfl, rfl⟩)) ⟨rfl, .own (.lst q4), t + 1 + r, _, gs ++ [t + 1 + r], by simp; (try first | rfl | exact ⟨rfl, rfl⟩ | exact ⟨rfl, rfl, rfl⟩ | exact ⟨rfl, rfl, rfl, rfl⟩ | exact ⟨rfl, rfl, rfl, rfl, rfl⟩), c3.mono (by omega), by simp [i2], asc_app i3 (fun x m => by have := i4 x m; omega), ?_, by omega, by omega⟩⟩
    intro x m
    rcases List.mem_append.1 m with m | m
    · have := i4 x m; omega
    · simp at m; omega
  · intro fm' i
    rw [ints_len] at i
    obtain ⟨s, t, x2, gs, rfl, i1, i2, i3, i4, i5, i6⟩ := i
    refine ⟨rfl, wp_is (by simp [Q3, Qd, Qe, Qf, Qg, Qh, Qi, Qj, Qk, Ql, Qm, Qn, Qo, Qp, Qq, Qr, Qs, Qt, Qu, Qv, Qw, Qx, Q7, Qy, Qz, QA, QB, Q8, Q4, QC, QD, QE, QF, QG, Q9, QH, QI, QJ, Qa, YV, QK, QL, QM, QN, QO, QP, QQ, QR, QS, QT, QU, QV, QW, QX, Q0, QY, QZ, Z0, Z1, Z2, Z3, Z4, Z5, Z6, Z7, Z8, Z9, Za, Zb, Zd, Ze, Zf, Zg, Zh, Zi, Zj, Zk, Zl, Zm, Zn, Zo, Zp, Zq, Zr, Zs, Zt, Zu, Zv, Zw, Q5, Zx, Zy, Zz, ZA, ZB, ZC, ZD, ZE, ZF, Qb, ZG, ZH, ZI, ZJ, ZK, ZL, ZM, Q6, ZN, ZO, ZP, ZQ, ZR, ZS, ZT, ZU, ZV, ZW, ZX, ZY, ZZ, Y0, Y1, Y2, Y3, Y4, Y5, Y6, Y7, Y8, Y9, Ya, Yb, Yc, Yd, Ye, Yf, Yg, Yh, Yi, Yj, Yk, Yl, Ym, Yn, Yo, Yp, Yq, Yr, Ys, Yt, Yu, Yv, Yw, Yx, Yy, Yz, YA, YB, YC, YD, YE, YF, YG, YH, YI, YJ, YK, YL, YM, YN, YO, Q1, Q2, Qc, YQ, YR, YS, YT, YU, frz, frzAll, peek, res1, resAll, stoAll, argOf, argsOf, bors, wback, outAt, outsFrom, ownsStay, retv, wipeF, unwipe, sto, isNone, tyD, cY, cMul, cMod, cDiv, cPow, Cell.dat, b2n, frzS, frzL, fzV, atI, ixN, fMulL, excOf, frzO]; (try first | rfl | exact ⟨rfl, rfl⟩ | exact ⟨rfl, rfl, rfl⟩ | exact ⟨rfl, rfl, rfl, rfl⟩ | exact ⟨rfl, rfl, rfl, rfl, rfl⟩)) ⟨_, _, _, _, rfl, rfl, by simp [Q3, Qd, Qe, Qf, Qg, Qh, Qi, Qj, Qk, Ql, Qm, Qn, Qo, Qp, Qq, Qr, Qs, Qt, Qu, Qv, Qw, Qx, Q7, Qy, Qz, QA, QB, Q8, Q4, QC, QD, QE, QF, QG, Q9, QH, QI, QJ, Qa, YV, QK, QL, QM, QN, QO, QP, QQ, QR, QS, QT, QU, QV, QW, QX, Q0, QY, QZ, Z0, Z1, Z2, Z3, Z4, Z5, Z6, Z7, Z8, Z9, Za, Zb, Zd, Ze, Zf, Zg, Zh, Zi, Zj, Zk, Zl, Zm, Zn, Zo, Zp, Zq, Zr, Zs, Zt, Zu, Zv, Zw, Q5, Zx, Zy, Zz, ZA, ZB, ZC, ZD, ZE, ZF, Qb, ZG, ZH, ZI, ZJ, ZK, ZL, ZM, Q6, ZN, ZO, ZP, ZQ, ZR, ZS, ZT, ZU, ZV, ZW, ZX, ZY, ZZ, Y0, Y1, Y2, Y3, Y4, Y5, Y6, Y7, Y8, Y9, Ya, Yb, Yc, Yd, Ye, Yf, Yg, Yh, Yi, Yj, Yk, Yl, Ym, Yn, Yo, Yp, Yq, Yr, Ys, Yt, Yu, Yv, Yw, Yx, Yy, Yz, YA, YB, YC, YD, YE, YF, YG, YH, YI, YJ, YK, YL, YM, YN, YO, Q1, Q2, Qc, YQ, YR, YS, YT, YU, frz, frzAll, peek, res1, resAll, stoAll, argOf, argsOf, bors, wback, outAt, outsFrom, ownsStay, retv, wipeF, unwipe, sto, isNone, tyD, cY, cMul, cMod, cDiv, cPow, Cell.dat, b2n, frzS, frzL, fzV, atI, ixN, fMulL, excOf, frzO]; (try first | rfl | exact ⟨rfl, rfl⟩ | exact ⟨rfl, rfl, rfl⟩ | exact ⟨rfl, rfl, rfl, rfl⟩ | exact ⟨rfl, rfl, rfl, rfl, rfl⟩), gs, s, rfl, rfl, i1.mono (by omega), by omega, i3, fun x m => by have := i4 x m; omega⟩⟩
theorem map_erase : ∀ (ls : List Int) (k : Nat), (dI ls).eraseIdx k = dI (ls.eraseIdx k)
  | [], _ => rfl
  | _ :: _, 0 => rfl
  | x :: ls, k + 1 => by simp [map_erase ls k]
theorem perm_erase {ls fs : List Int} {k : Nat} (h : k < ls.length) : (ls.eraseIdx k ++ (fs ++ [ls[k]])).Perm (ls ++ fs) := by
  have h1 : (ls[k] :: ls.eraseIdx k).Perm ls := by
    induction ls generalizing k with
    | nil => simp at h
    | cons x ls ih =>
      cases k with
      | zero => exact List.Perm.refl _
      | succ k =>
        have := ih (k := k) (by simpa using h)
        simp only [List.getElem_cons_succ, List.eraseIdx_cons_succ]
        exact (List.Perm.swap x _ _).trans (this.cons x)
  have h2 : (ls.eraseIdx k ++ (fs ++ [ls[k]])).Perm ([ls[k]] ++ (ls.eraseIdx k ++ fs)) := by
    rw [← List.append_assoc]
    exact List.perm_append_comm
  refine h2.trans ?_
  have h3 := h1.append_right fs
  simpa using h3
def SpShuffled (D : Dm) : Prop := ∀ (C : Int) (s : S0) (gs : List Int), Bx C s → C + 30 ≤ BC → gs.length ≤ 12 → Ev D [s, .dat (.tuple (dI gs))] fun r outs => ∃ rs s', r = .fre (.lst (dI rs)) ∧ outs = [s', .dat (.tuple (dI gs))] ∧ Bx (C + 12) s' ∧ rs.Perm gs
theorem sp_shuffled {Tk : Dm} (hT : SpTake Tk) : SpShuffled (B_shuffled Tk) := by
  intro C s gs hs hC hg
  have hC' : C + 30 ≤ 100000000 := hC
  obtain ⟨q, rfl⟩ := hs.own
  refine mkD_wp rfl (wp_nx (by simp [Q3, Qd, Qe, Qf, Qg, Qh, Qi, Qj, Qk, Ql, Qm, Qn, Qo, Qp, Qq, Qr, Qs, Qt, Qu, Qv, Qw, Qx, Q7, Qy, Qz, QA, QB, Q8, Q4, QC, QD, QE, QF, QG, Q9, QH, QI, QJ, Qa, YV, QK, QL, QM, QN, QO, QP, QQ, QR, QS, QT, QU, QV, QW, QX, Q0, QY, QZ, Z0, Z1, Z2, Z3, Z4, Z5, Z6, Z7, Z8, Z9, Za, Zb, Zd, Ze, Zf, Zg, Zh, Zi, Zj, Zk, Zl, Zm, Zn, Zo, Zp, Zq, Zr, Zs, Zt, Zu, Zv, Zw, Q5, Zx, Zy, Zz, ZA, ZB, ZC, ZD, ZE, ZF, Qb, ZG, ZH, ZI, ZJ, ZK, ZL, ZM, Q6, ZN, ZO, ZP, ZQ, ZR, ZS, ZT, ZU, ZV, ZW, ZX, ZY, ZZ, Y0, Y1, Y2, Y3, Y4, Y5, Y6, Y7, Y8, Y9, Ya, Yb, Yc, Yd, Ye, Yf, Yg, Yh, Yi, Yj, Yk, Yl, Ym, Yn, Yo, Yp, Yq, Yr, Ys, Yt, Yu, Yv, Yw, Yx, Yy, Yz, YA, YB, YC, YD, YE, YF, YG, YH, YI, YJ, YK, YL, YM, YN, YO, Q1, Q2, Qc, YQ, YR, YS, YT, YU, frz, frzAll, peek, res1, resAll, stoAll, argOf, argsOf, bors, wback, outAt, outsFrom, ownsStay, retv, wipeF, unwipe, sto, isNone, tyD, cY, cMul, cMod, cDiv, cPow, Cell.dat, b2n, frzS, frzL, fzV, atI, ixN, fMulL, excOf, frzO]; (try first | rfl | exact ⟨rfl, rfl⟩ | exact ⟨rfl, rfl, rfl⟩ | exact ⟨rfl, rfl, rfl, rfl⟩ | exact ⟨rfl, rfl, rfl, rfl, rfl⟩)) (wp_seq (wp_while (fun k fm => ∃ s ls fs, fm = [some s, some (.dat (.tuple (dI gs))), some (.own (.lst (dI ls))), some (.own (.lst (dI fs)))] ∧ ls.length = k ∧ k ≤ gs.length ∧ Bx (C + (gs.length - k : Nat)) s ∧ (ls ++ fs).Perm gs) ?_ 100000 gs.length _ ⟨_, gs, [], by simp [Q3, Qd, Qe, Qf, Qg, Qh, Qi, Qj, Qk, Ql, Qm, Qn, Qo, Qp, Qq, Qr, Qs, Qt, Qu, Qv, Qw, Qx, Q7, Qy, Qz, QA, QB, Q8, Q4, QC, QD, QE, QF, QG, Q9, QH, QI, QJ, Qa, YV, QK, QL, QM, QN, QO, QP, QQ, QR, QS, QT, QU, QV, QW, QX, Q0, QY, QZ, Z0, Z1, Z2, Z3, Z4, Z5, Z6, Z7, Z8, Z9, Za, Zb, Zd, Ze, Zf, Zg, Zh, Zi, Zj, Zk, Zl, Zm, Zn, Zo, Zp, Zq, Zr, Zs, Zt, Zu, Zv, Zw, Q5, Zx, Zy, Zz, ZA, ZB, ZC, ZD, ZE, ZF, Qb, ZG, ZH, ZI, ZJ, ZK, ZL, ZM, Q6, ZN, ZO, ZP, ZQ, ZR, ZS, ZT, ZU, ZV, ZW, ZX, ZY, ZZ, Y0, Y1, Y2, Y3, Y4, Y5, Y6, Y7, Y8, Y9, Ya, Yb, Yc, Yd, Ye, Yf, Yg, Yh, Yi, Yj, Yk, Yl, Ym, Yn, Yo, Yp, Yq, Yr, Ys, Yt, Yu, Yv, Yw, Yx, Yy, Yz, YA, YB, YC, YD, YE, YF, YG, YH, YI, YJ, YK, YL, YM, YN, YO, Q1, Q2, Qc, YQ, YR, YS, YT, YU, frz, frzAll, peek, res1, resAll, stoAll, argOf, argsOf, bors, wback, outAt, outsFrom, ownsStay, retv, wipeF, unwipe, sto, isNone, tyD, cY, cMul, cMod, cDiv, cPow, Cell.dat, b2n, frzS, frzL, fzV, atI, ixN, fMulL, excOf, frzO], rfl, by omega, hs.mono (by omega), by simp⟩ (by omega))))
  intro k fm i
  obtain ⟨s, ls, fs, rfl, i1, i2, i3, i4⟩ := i
  have hlen := i4.length_eq
  simp only [List.length_append] at hlen
  obtain ⟨q3, rfl⟩ := i3.own
  cases k with
  | zero =>
    obtain rfl : ls = [] := by cases ls with | nil => rfl | cons _ _ => simp at i1
    refine .inl ⟨_, by simp [Q3, Qd, Qe, Qf, Qg, Qh, Qi, Qj, Qk, Ql, Qm, Qn, Qo, Qp, Qq, Qr, Qs, Qt, Qu, Qv, Qw, Qx, Q7, Qy, Qz, QA, QB, Q8, Q4, QC, QD, QE, QF, QG, Q9, QH, QI, QJ, Qa, YV, QK, QL, QM, QN, QO, QP, QQ, QR, QS, QT, QU, QV, QW, QX, Q0, QY, QZ, Z0, Z1, Z2, Z3, Z4, Z5, Z6, Z7, Z8, Z9, Za, Zb, Zd, Ze, Zf, Zg, Zh, Zi, Zj, Zk, Zl, Zm, Zn, Zo, Zp, Zq, Zr, Zs, Zt, Zu, Zv, Zw, Q5, Zx, Zy, Zz, ZA, ZB, ZC, ZD, ZE, ZF, Qb, ZG, ZH, ZI, ZJ, ZK, ZL, ZM, Q6, ZN, ZO, ZP, ZQ, ZR, ZS, ZT, ZU, ZV, ZW, ZX, ZY, ZZ, Y0, Y1, Y2, Y3, Y4, Y5, Y6, Y7, Y8, Y9, Ya, Yb, Yc, Yd, Ye, Yf, Yg, Yh, Yi, Yj, Yk, Yl, Ym, Yn, Yo, Yp, Yq, Yr, Ys, Yt, Yu, Yv, Yw, Yx, Yy, Yz, YA, YB, YC, YD, YE, YF, YG, YH, YI, YJ, YK, YL, YM, YN, YO, Q1, Q2, Qc, YQ, YR, YS, YT, YU, frz, frzAll, peek, res1, resAll, stoAll, argOf, argsOf, bors, wback, outAt, outsFrom, ownsStay, retv, wipeF, unwipe, sto, isNone, tyD, cY, cMul, cMod, cDiv, cPow, Cell.dat, b2n, frzS, frzL, fzV, atI, ixN, fMulL, excOf, frzO, PyData.eqv, PyData.eqvAll]; (try first | rfl | exact ⟨rfl, rfl⟩ | exact ⟨rfl, rfl, rfl⟩ | exact ⟨rfl, rfl, rfl, rfl⟩ | exact ⟨rfl, rfl, rfl, rfl, rfl⟩), rfl, wp_is (by simp [Q3, Qd, Qe, Qf, Qg, Qh, Qi, Qj, Qk, Ql, Qm, Qn, Qo, Qp, Qq, Qr, Qs, Qt, Qu, Qv, Qw, Qx, Q7, Qy, Qz, QA, QB, Q8, Q4, QC, QD, QE, QF, QG, Q9, QH, QI, QJ, Qa, YV, QK, QL, QM, QN, QO, QP, QQ, QR, QS, QT, QU, QV, QW, QX, Q0, QY, QZ, Z0, Z1, Z2, Z3, Z4, Z5, Z6, Z7, Z8, Z9, Za, Zb, Zd, Ze, Zf, Zg, Zh, Zi, Zj, Zk, Zl, Zm, Zn, Zo, Zp, Zq, Zr, Zs, Zt, Zu, Zv, Zw, Q5, Zx, Zy, Zz, ZA, ZB, ZC, ZD, ZE, ZF, Qb, ZG, ZH, ZI, ZJ, ZK, ZL, ZM, Q6, ZN, ZO, ZP, ZQ, ZR, ZS, ZT, ZU, ZV, ZW, ZX, ZY, ZZ, Y0, Y1, Y2, Y3, Y4, Y5, Y6, Y7, Y8, Y9, Ya, Yb, Yc, Yd, Ye, Yf, Yg, Yh, Yi, Yj, Yk, Yl, Ym, Yn, Yo, Yp, Yq, Yr, Ys, Yt, Yu, Yv, Yw, Yx, Yy, Yz, YA, YB, YC, YD, YE, YF, YG, YH, YI, YJ, YK, YL, YM, YN, YO, Q1, Q2, Qc, YQ, YR, YS, YT, YU, frz, frzAll, peek, res1, resAll, stoAll, argOf, argsOf, bors, wback, outAt, outsFrom, ownsStay, retv, wipeF, unwipe, sto, isNone, tyD, cY, cMul, cMod, cDiv, cPow, Cell.dat, b2n, frzS, frzL, fzV, atI, ixN, fMulL, excOf, frzO]; (try first | rfl | exact ⟨rfl, rfl⟩ | exact ⟨rfl, rfl, rfl⟩ | exact ⟨rfl, rfl, rfl, rfl⟩ | exact ⟨rfl, rfl, rfl, rfl, rfl⟩)) ⟨_, _, _, _, rfl, by simp [Q3, Qd, Qe, Qf, Qg, Qh, Qi, Qj, Qk, Ql, Qm, Qn, Qo, Qp, Qq, Qr, Qs, Qt, Qu, Qv, Qw, Qx, Q7, Qy, Qz, QA, QB, Q8, Q4, QC, QD, QE, QF, QG, Q9, QH, QI, QJ, Qa, YV, QK, QL, QM, QN, QO, QP, QQ, QR, QS, QT, QU, QV, QW, QX, Q0, QY, QZ, Z0, Z1, Z2, Z3, Z4, Z5, Z6, Z7, Z8, Z9, Za, Zb, Zd, Ze, Zf, Zg, Zh, Zi, Zj, Zk, Zl, Zm, Zn, Zo, Zp, Zq, Zr, Zs, Zt, Zu, Zv, Zw, Q5, Zx, Zy, Zz, ZA, ZB, ZC, ZD, ZE, ZF, Qb, ZG, ZH, ZI, ZJ, ZK, ZL, ZM, Q6, ZN, ZO, ZP, ZQ, ZR, ZS, ZT, ZU, ZV, ZW, ZX, ZY, ZZ, Y0, Y1, Y2, Y3, Y4, Y5, Y6, Y7, Y8, Y9, Ya, Yb, Yc, Yd, Ye, Yf, Yg, Yh, Yi, Yj, Yk, Yl, Ym, Yn, Yo, Yp, Yq, Yr, Ys, Yt, Yu, Yv, Yw, Yx, Yy, Yz, YA, YB, YC, YD, YE, YF, YG, YH, YI, YJ, YK, YL, YM, YN, YO, Q1, Q2, Qc, YQ, YR, YS, YT, YU, frz, frzAll, peek, res1, resAll, stoAll, argOf, argsOf, bors, wback, outAt, outsFrom, ownsStay, retv, wipeF, unwipe, sto, isNone, tyD, cY, cMul, cMod, cDiv, cPow, Cell.dat, b2n, frzS, frzL, fzV, atI, ixN, fMulL, excOf, frzO]; (try first | rfl | exact ⟨rfl, rfl⟩ | exact ⟨rfl, rfl, rfl⟩ | exact ⟨rfl, rfl, rfl, rfl⟩ | exact ⟨rfl, rfl, rfl, rfl, rfl⟩), by simp [Q3, Qd, Qe, Qf, Qg, Qh, Qi, Qj, Qk, Ql, Qm, Qn, Qo, Qp, Qq, Qr, Qs, Qt, Qu, Qv, Qw, Qx, Q7, Qy, Qz, QA, QB, Q8, Q4, QC, QD, QE, QF, QG, Q9, QH, QI, QJ, Qa, YV, QK, QL, QM, QN, QO, QP, QQ, QR, QS, QT, QU, QV, QW, QX, Q0, QY, QZ, Z0, Z1, Z2, Z3, Z4, Z5, Z6, Z7, Z8, Z9, Za, Zb, Zd, Ze, Zf, Zg, Zh, Zi, Zj, Zk, Zl, Zm, Zn, Zo, Zp, Zq, Zr, Zs, Zt, Zu, Zv, Zw, Q5, Zx, Zy, Zz, ZA, ZB, ZC, ZD, ZE, ZF, Qb, ZG, ZH, ZI, ZJ, ZK, ZL, ZM, Q6, ZN, ZO, ZP, ZQ, ZR, ZS, ZT, ZU, ZV, ZW, ZX, ZY, ZZ, Y0, Y1, Y2, Y3, Y4, Y5, Y6, Y7, Y8, Y9, Ya, Yb, Yc, Yd, Ye, Yf, Yg, Yh, Yi, Yj, Yk, Yl, Ym, Yn, Yo, Yp, Yq, Yr, Ys, Yt, Yu, Yv, Yw, Yx, Yy, Yz, YA, YB, YC, YD, YE, YF, YG, YH, YI, YJ, YK, YL, YM, YN, YO, Q1, Q2, Qc, YQ, YR, YS, YT, YU, frz, frzAll, peek, res1, resAll, stoAll, argOf, argsOf, bors, wback, outAt, outsFrom, ownsStay, retv, wipeF, unwipe, sto, isNone, tyD, cY, cMul, cMod, cDiv, cPow, Cell.dat, b2n, frzS, frzL, fzV, atI, ixN, fMulL, excOf, frzO]; (try first | rfl | exact ⟨rfl, rfl⟩ | exact ⟨rfl, rfl, rfl⟩ | exact ⟨rfl, rfl, rfl, rfl⟩ | exact ⟨rfl, rfl, rfl, rfl, rfl⟩), fs, _, rfl, rfl, i3.mono (by omega), by simpa using i4⟩⟩
  | succ k =>
    obtain ⟨r, s1, c1, c2, c3, c4⟩ := hT _ (ls.length : Nat) _ i3 (by show _ ≤ (100000000 : Int); omega) (by omega) (by omega)
    obtain ⟨q4, rfl⟩ := c3.own
    have hr : r.toNat < ls.length := by omega
    have h1 := shaped_ints ls
    have h2 : PyData.eqv (.list (dI ls)) (.list []) = false := by
      cases ls with
      | nil => simp at i1
      | cons x l => simp [PyData.eqv, PyData.eqvAll]
    have g2 := map_erase ls r.toNat
    have g3 : fs.length < 16777216 := by omega
    have j1 : -9223372036854775808 ≤ r := by omega
    have j2 : r < 9223372036854775808 := by omega
    have j3 : ¬ (r < 0) := by omega
    refine .inr ⟨_, by simp [Q3, Qd, Qe, Qf, Qg, Qh, Qi, Qj, Qk, Ql, Qm, Qn, Qo, Qp, Qq, Qr, Qs, Qt, Qu, Qv, Qw, Qx, Q7, Qy, Qz, QA, QB, Q8, Q4, QC, QD, QE, QF, QG, Q9, QH, QI, QJ, Qa, YV, QK, QL, QM, QN, QO, QP, QQ, QR, QS, QT, QU, QV, QW, QX, Q0, QY, QZ, Z0, Z1, Z2, Z3, Z4, Z5, Z6, Z7, Z8, Z9, Za, Zb, Zd, Ze, Zf, Zg, Zh, Zi, Zj, Zk, Zl, Zm, Zn, Zo, Zp, Zq, Zr, Zs, Zt, Zu, Zv, Zw, Q5, Zx, Zy, Zz, ZA, ZB, ZC, ZD, ZE, ZF, Qb, ZG, ZH, ZI, ZJ, ZK, ZL, ZM, Q6, ZN, ZO, ZP, ZQ, ZR, ZS, ZT, ZU, ZV, ZW, ZX, ZY, ZZ, Y0, Y1, Y2, Y3, Y4, Y5, Y6, Y7, Y8, Y9, Ya, Yb, Yc, Yd, Ye, Yf, Yg, Yh, Yi, Yj, Yk, Yl, Ym, Yn, Yo, Yp, Yq, Yr, Ys, Yt, Yu, Yv, Yw, Yx, Yy, Yz, YA, YB, YC, YD, YE, YF, YG, YH, YI, YJ, YK, YL, YM, YN, YO, Q1, Q2, Qc, YQ, YR, YS, YT, YU, frz, frzAll, peek, res1, resAll, stoAll, argOf, argsOf, bors, wback, outAt, outsFrom, ownsStay, retv, wipeF, unwipe, sto, isNone, tyD, cY, cMul, cMod, cDiv, cPow, Cell.dat, b2n, frzS, frzL, fzV, atI, ixN, fMulL, excOf, frzO, h1, h2]; (try first | rfl | exact ⟨rfl, rfl⟩ | exact ⟨rfl, rfl, rfl⟩ | exact ⟨rfl, rfl, rfl, rfl⟩ | exact ⟨rfl, rfl, rfl, rfl, rfl⟩), wp_is (by simp [Q3, Qd, Qe, Qf, Qg, Qh, Qi, Qj, Qk, Ql, Qm, Qn, Qo, Qp, Qq, Qr, Qs, Qt, Qu, Qv, Qw, Qx, Q7, Qy, Qz, QA, QB, Q8, Q4, QC, QD, QE, QF, QG, Q9, QH, QI, QJ, Qa, YV, QK, QL, QM, QN, QO, QP, QQ, QR, QS, QT, QU, QV, QW, QX, Q0, QY, QZ, Z0, Z1, Z2, Z3, Z4, Z5, Z6, Z7, Z8, Z9, Za, Zb, Zd, Ze, Zf, Zg, Zh, Zi, Zj, Zk, Zl, Zm, Zn, Zo, Zp, Zq, Zr, Zs, Zt, Zu, Zv, Zw, Q5, Zx, Zy, Zz, ZA, ZB, ZC, ZD, ZE, ZF, Qb, ZG, ZH, ZI, ZJ, ZK, ZL, ZM, Q6, ZN, ZO, ZP, ZQ, ZR, ZS, ZT, ZU, ZV, ZW, ZX, ZY, ZZ, Y0, Y1, Y2, Y3, Y4, Y5, Y6, Y7, Y8, Y9, Ya, Yb, Yc, Yd, Ye, Yf, Yg, Yh, Yi, Yj, Yk, Yl, Ym, Yn, Yo, Yp, Yq, Yr, Ys, Yt, Yu, Yv, Yw, Yx, Yy, Yz, YA, YB, YC, YD, YE, YF, YG, YH, YI, YJ, YK, YL, YM, YN, YO, Q1, Q2, Qc, YQ, YR, YS, YT, YU, frz, frzAll, peek, res1, resAll, stoAll, argOf, argsOf, bors, wback, outAt, outsFrom, ownsStay, retv, wipeF, unwipe, sto, isNone, tyD, cY, cMul, cMod, cDiv, cPow, Cell.dat, b2n, frzS, frzL, fzV, atI, ixN, fMulL, excOf, frzO, c4, seqIndex?, j1, j2, j3, c1, c2, hr, g3, g2]; (try first | rfl | exact ⟨rfl, rfl⟩ | exact ⟨rfl, rfl, rfl⟩ | exact ⟨rfl, rfl, rfl, rfl⟩ | exact ⟨rfl, rfl, rfl, rfl, rfl⟩)) ⟨rfl, k, by omega, _, ls.eraseIdx r.toNat, fs ++ [ls[r.toNat]], by simp; (try first | rfl | exact ⟨rfl, rfl⟩ | exact ⟨rfl, rfl, rfl⟩ | exact ⟨rfl, rfl, rfl, rfl⟩ | exact ⟨rfl, rfl, rfl, rfl, rfl⟩), by rw [List.length_eraseIdx, if_pos hr]; omega, by omega, c3.mono (by omega), (perm_erase hr).trans i4⟩⟩
def SpSpan (D : Dm) : Prop := ∀ (C v : Int) (s : S0) (gs : List Int), Bx C s → C + 30 ≤ BC → v ∈ gs → asc gs = true → gs.length ≤ 12 → (∀ x ∈ gs, 1 ≤ x ∧ x ≤ 200000000) → Ev D [s, .dat (.tuple (dI gs)), .dat (.int v)] fun r outs => ∃ p s', r = .dat (dPair p) ∧ outs = [s', .dat (.tuple (dI gs)), .dat (.int v)] ∧ Bx (C + 5) s' ∧ 1 ≤ p.1 ∧ p.1 ≤ v ∧ v ≤ p.2 ∧ p.2 ≤ 200000001
theorem sp_span {Tk : Dm} (hT : SpTake Tk) : SpSpan (B_span Tk) := by
  intro C v s gs hs hC hv ha hg hb
  have hC' : C + 30 ≤ 100000000 := hC
  have hk : gs.idxOf v < gs.length := List.idxOf_lt_length_of_mem hv
  have hgv : gs[gs.idxOf v] = v := List.getElem_idxOf hk
  generalize hK : gs.idxOf v = K at hk hgv
  obtain ⟨sl, s1, a1, a2, a3, a4⟩ := hT _ 5 s hs (by show _ ≤ (100000000 : Int); omega) (by omega) (by omega)
  obtain ⟨t2, s2, b1, b2, b3, b4⟩ := hT _ (sl + 1) s1 a3 (by show _ ≤ (100000000 : Int); omega) (by omega) (by omega)
  obtain ⟨m, hm⟩ : ∃ m : Int, m = (if sl < (K : Int) then sl else K) := ⟨_, rfl⟩
  have hm1 : 0 ≤ m ∧ m ≤ K := by rw [hm]; split <;> omega
  obtain ⟨la, hla⟩ : ∃ la : Int, la = (if (K : Int) + t2 < (gs.length : Int) - 1 then (K : Int) + t2 else (gs.length : Int) - 1) := ⟨_, rfl⟩
  have hla1 : K ≤ la ∧ la < gs.length := by rw [hla]; split <;> omega
  obtain ⟨t3, s3, c1, c2, c3, c4⟩ := hT _ ((K : Int) - (K - m) + 1) s2 b3 (by show _ ≤ (100000000 : Int); omega) (by omega) (by omega)
  obtain ⟨t4, s4, d1, d2, d3, d4⟩ := hT _ 2 s3 c3 (by show _ ≤ (100000000 : Int); omega) (by omega) (by omega)
  obtain ⟨t5, s5, e1, e2, e3, e4⟩ := hT _ 2 s4 d3 (by show _ ≤ (100000000 : Int); omega) (by omega) (by omega)
  have hi : (t3 + ((K : Int) - m)).toNat < gs.length := by omega
  have hj : la.toNat < gs.length := by omega
  have le1 : gs[(t3 + ((K : Int) - m)).toNat] ≤ v := by rw [← hgv]; exact asc_le (gs := gs) hk (by omega) ha
  have le2 : v ≤ gs[la.toNat] := by conv => lhs; rw [← hgv]
                                    exact asc_le (gs := gs) hj (by omega) ha
  have bo := hb _ (List.getElem_mem hi)
  have to := hb _ (List.getElem_mem hj)
  generalize hB : gs[(t3 + ((K : Int) - m)).toNat] = B at le1 bo
  generalize hT' : gs[la.toNat] = T at le2 to
  obtain ⟨q, rfl⟩ := hs.own
  obtain ⟨q1, rfl⟩ := a3.own
  obtain ⟨q2, rfl⟩ := b3.own
  obtain ⟨q3, rfl⟩ := c3.own
  obtain ⟨q4, rfl⟩ := d3.own
  obtain ⟨q5, rfl⟩ := e3.own
  have ix1 : atI (dI gs) (t3 + ((K : Int) - m)) = some (.int B) := by
    have x1 : 0 ≤ t3 + ((K : Int) - m) := by omega
    have x2 : t3 + ((K : Int) - m) < gs.length := by omega
    simp [atI, ixN, x1, x2, hi, hB]
  have ix2 : atI (dI gs) la = some (.int T) := by
    have x1 : 0 ≤ la := by omega
    have x2 : la < gs.length := by omega
    simp [atI, ixN, x1, x2, hj, hT']
  have hin : intsD (dI gs) = some gs := intsD_map gs
  have hl : (dI gs).length = gs.length := by simp
  generalize dI gs = ds at ix1 ix2 hin hl
  refine mkD_wp rfl (wp_gh (by simp [Q3, Qd, Qe, Qf, Qg, Qh, Qi, Qj, Qk, Ql, Qm, Qn, Qo, Qp, Qq, Qr, Qs, Qt, Qu, Qv, Qw, Qx, Q7, Qy, Qz, QA, QB, Q8, Q4, QC, QD, QE, QF, QG, Q9, QH, QI, QJ, Qa, YV, QK, QL, QM, QN, QO, QP, QQ, QR, QS, QT, QU, QV, QW, QX, Q0, QY, QZ, Z0, Z1, Z2, Z3, Z4, Z5, Z6, Z7, Z8, Z9, Za, Zb, Zd, Ze, Zf, Zg, Zh, Zi, Zj, Zk, Zl, Zm, Zn, Zo, Zp, Zq, Zr, Zs, Zt, Zu, Zv, Zw, Q5, Zx, Zy, Zz, ZA, ZB, ZC, ZD, ZE, ZF, Qb, ZG, ZH, ZI, ZJ, ZK, ZL, ZM, Q6, ZN, ZO, ZP, ZQ, ZR, ZS, ZT, ZU, ZV, ZW, ZX, ZY, ZZ, Y0, Y1, Y2, Y3, Y4, Y5, Y6, Y7, Y8, Y9, Ya, Yb, Yc, Yd, Ye, Yf, Yg, Yh, Yi, Yj, Yk, Yl, Ym, Yn, Yo, Yp, Yq, Yr, Ys, Yt, Yu, Yv, Yw, Yx, Yy, Yz, YA, YB, YC, YD, YE, YF, YG, YH, YI, YJ, YK, YL, YM, YN, YO, Q1, Q2, Qc, YQ, YR, YS, YT, YU, frz, frzAll, peek, res1, resAll, stoAll, argOf, argsOf, bors, wback, outAt, outsFrom, ownsStay, retv, wipeF, unwipe, sto, isNone, tyD, cY, cMul, cMod, cDiv, cPow, Cell.dat, b2n, frzS, frzL, fzV, fMulL, excOf, frzO, mIndex_ap, a4, hin, hv, hK]; (try first | rfl | exact ⟨rfl, rfl⟩ | exact ⟨rfl, rfl, rfl⟩ | exact ⟨rfl, rfl, rfl, rfl⟩ | exact ⟨rfl, rfl, rfl, rfl, rfl⟩)) (wp_gh (by simp [Q3, Qd, Qe, Qf, Qg, Qh, Qi, Qj, Qk, Ql, Qm, Qn, Qo, Qp, Qq, Qr, Qs, Qt, Qu, Qv, Qw, Qx, Q7, Qy, Qz, QA, QB, Q8, Q4, QC, QD, QE, QF, QG, Q9, QH, QI, QJ, Qa, YV, QK, QL, QM, QN, QO, QP, QQ, QR, QS, QT, QU, QV, QW, QX, Q0, QY, QZ, Z0, Z1, Z2, Z3, Z4, Z5, Z6, Z7, Z8, Z9, Za, Zb, Zd, Ze, Zf, Zg, Zh, Zi, Zj, Zk, Zl, Zm, Zn, Zo, Zp, Zq, Zr, Zs, Zt, Zu, Zv, Zw, Q5, Zx, Zy, Zz, ZA, ZB, ZC, ZD, ZE, ZF, Qb, ZG, ZH, ZI, ZJ, ZK, ZL, ZM, Q6, ZN, ZO, ZP, ZQ, ZR, ZS, ZT, ZU, ZV, ZW, ZX, ZY, ZZ, Y0, Y1, Y2, Y3, Y4, Y5, Y6, Y7, Y8, Y9, Ya, Yb, Yc, Yd, Ye, Yf, Yg, Yh, Yi, Yj, Yk, Yl, Ym, Yn, Yo, Yp, Yq, Yr, Ys, Yt, Yu, Yv, Yw, Yx, Yy, Yz, YA, YB, YC, YD, YE, YF, YG, YH, YI, YJ, YK, YL, YM, YN, YO, Q1, Q2, Qc, YQ, YR, YS, YT, YU, frz, frzAll, peek, res1, resAll, stoAll, argOf, argsOf, bors, wback, outAt, outsFrom, ownsStay, retv, wipeF, unwipe, sto, isNone, tyD, cY, cMul, cMod, cDiv, cPow, Cell.dat, b2n, frzS, frzL, fzV, fMulL, excOf, frzO, b4, hl, ← hm, ← hla]; (try first | rfl | exact ⟨rfl, rfl⟩ | exact ⟨rfl, rfl, rfl⟩ | exact ⟨rfl, rfl, rfl, rfl⟩ | exact ⟨rfl, rfl, rfl, rfl, rfl⟩)) (wp_nx (by simp [Q3, Qd, Qe, Qf, Qg, Qh, Qi, Qj, Qk, Ql, Qm, Qn, Qo, Qp, Qq, Qr, Qs, Qt, Qu, Qv, Qw, Qx, Q7, Qy, Qz, QA, QB, Q8, Q4, QC, QD, QE, QF, QG, Q9, QH, QI, QJ, Qa, YV, QK, QL, QM, QN, QO, QP, QQ, QR, QS, QT, QU, QV, QW, QX, Q0, QY, QZ, Z0, Z1, Z2, Z3, Z4, Z5, Z6, Z7, Z8, Z9, Za, Zb, Zd, Ze, Zf, Zg, Zh, Zi, Zj, Zk, Zl, Zm, Zn, Zo, Zp, Zq, Zr, Zs, Zt, Zu, Zv, Zw, Q5, Zx, Zy, Zz, ZA, ZB, ZC, ZD, ZE, ZF, Qb, ZG, ZH, ZI, ZJ, ZK, ZL, ZM, Q6, ZN, ZO, ZP, ZQ, ZR, ZS, ZT, ZU, ZV, ZW, ZX, ZY, ZZ, Y0, Y1, Y2, Y3, Y4, Y5, Y6, Y7, Y8, Y9, Ya, Yb, Yc, Yd, Ye, Yf, Yg, Yh, Yi, Yj, Yk, Yl, Ym, Yn, Yo, Yp, Yq, Yr, Ys, Yt, Yu, Yv, Yw, Yx, Yy, Yz, YA, YB, YC, YD, YE, YF, YG, YH, YI, YJ, YK, YL, YM, YN, YO, Q1, Q2, Qc, YQ, YR, YS, YT, YU, frz, frzAll, peek, res1, resAll, stoAll, argOf, argsOf, bors, wback, outAt, outsFrom, ownsStay, retv, wipeF, unwipe, sto, isNone, tyD, cY, cMul, cMod, cDiv, cPow, Cell.dat, b2n, frzS, frzL, fzV, fMulL, excOf, frzO, c4, ix1, ix2]; (try first | rfl | exact ⟨rfl, rfl⟩ | exact ⟨rfl, rfl, rfl⟩ | exact ⟨rfl, rfl, rfl, rfl⟩ | exact ⟨rfl, rfl, rfl, rfl, rfl⟩)) (wp_is (by simp [Q3, Qd, Qe, Qf, Qg, Qh, Qi, Qj, Qk, Ql, Qm, Qn, Qo, Qp, Qq, Qr, Qs, Qt, Qu, Qv, Qw, Qx, Q7, Qy, Qz, QA, QB, Q8, Q4, QC, QD, QE, QF, QG, Q9, QH, QI, QJ, Qa, YV, QK, QL, QM, QN, QO, QP, QQ, QR, QS, QT, QU, QV, QW, QX, Q0, QY, QZ, Z0, Z1, Z2, Z3, Z4, Z5, Z6, Z7, Z8, Z9, Za, Zb, Zd, Ze, Zf, Zg, Zh, Zi, Zj, Zk, Zl, Zm, Zn, Zo, Zp, Zq, Zr, Zs, Zt, Zu, Zv, Zw, Q5, Zx, Zy, Zz, ZA, ZB, ZC, ZD, ZE, ZF, Qb, ZG, ZH, ZI, ZJ, ZK, ZL, ZM, Q6, ZN, ZO, ZP, ZQ, ZR, ZS, ZT, ZU, ZV, ZW, ZX, ZY, ZZ, Y0, Y1, Y2, Y3, Y4, Y5, Y6, Y7, Y8, Y9, Ya, Yb, Yc, Yd, Ye, Yf, Yg, Yh, Yi, Yj, Yk, Yl, Ym, Yn, Yo, Yp, Yq, Yr, Ys, Yt, Yu, Yv, Yw, Yx, Yy, Yz, YA, YB, YC, YD, YE, YF, YG, YH, YI, YJ, YK, YL, YM, YN, YO, Q1, Q2, Qc, YQ, YR, YS, YT, YU, frz, frzAll, peek, res1, resAll, stoAll, argOf, argsOf, bors, wback, outAt, outsFrom, ownsStay, retv, wipeF, unwipe, sto, isNone, tyD, cY, cMul, cMod, cDiv, cPow, Cell.dat, b2n, frzS, frzL, fzV, fMulL, excOf, frzO, d4, e4]; (try first | rfl | exact ⟨rfl, rfl⟩ | exact ⟨rfl, rfl, rfl⟩ | exact ⟨rfl, rfl, rfl, rfl⟩ | exact ⟨rfl, rfl, rfl, rfl, rfl⟩)) ⟨_, _, _, _, rfl, rfl, by simp [Q3, Qd, Qe, Qf, Qg, Qh, Qi, Qj, Qk, Ql, Qm, Qn, Qo, Qp, Qq, Qr, Qs, Qt, Qu, Qv, Qw, Qx, Q7, Qy, Qz, QA, QB, Q8, Q4, QC, QD, QE, QF, QG, Q9, QH, QI, QJ, Qa, YV, QK, QL, QM, QN, QO, QP, QQ, QR, QS, QT, QU, QV, QW, QX, Q0, QY, QZ, Z0, Z1, Z2, Z3, Z4, Z5, Z6, Z7, Z8, Z9, Za, Zb, Zd, Ze, Zf, Zg, Zh, Zi, Zj, Zk, Zl, Zm, Zn, Zo, Zp, Zq, Zr, Zs, Zt, Zu, Zv, Zw, Q5, Zx, Zy, Zz, ZA, ZB, ZC, ZD, ZE, ZF, Qb, ZG, ZH, ZI, ZJ, ZK, ZL, ZM, Q6, ZN, ZO, ZP, ZQ, ZR, ZS, ZT, ZU, ZV, ZW, ZX, ZY, ZZ, Y0, Y1, Y2, Y3, Y4, Y5, Y6, Y7, Y8, Y9, Ya, Yb, Yc, Yd, Ye, Yf, Yg, Yh, Yi, Yj, Yk, Yl, Ym, Yn, Yo, Yp, Yq, Yr, Ys, Yt, Yu, Yv, Yw, Yx, Yy, Yz, YA, YB, YC, YD, YE, YF, YG, YH, YI, YJ, YK, YL, YM, YN, YO, Q1, Q2, Qc, YQ, YR, YS, YT, YU, frz, frzAll, peek, res1, resAll, stoAll, argOf, argsOf, bors, wback, outAt, outsFrom, ownsStay, retv, wipeF, unwipe, sto, isNone, tyD, cY, cMul, cMod, cDiv, cPow, Cell.dat, b2n, frzS, frzL, fzV, fMulL, excOf, frzO]; (try first | rfl | exact ⟨rfl, rfl⟩ | exact ⟨rfl, rfl, rfl⟩ | exact ⟨rfl, rfl, rfl, rfl⟩ | exact ⟨rfl, rfl, rfl, rfl, rfl⟩), (B - (if t4 < B - 1 then t4 else B - 1), T + t5), _, rfl, rfl, e3.mono (by omega), by dsimp only; split <;> omega, by dsimp only; split <;> omega, by dsimp only; omega, by dsimp only; omega⟩))))
structure Shop where
  sizes : List Int
  ranges : List (Int × Int)
def dShop (S : Shop) : PyData := .tuple [.tuple (dI S.sizes), .tuple (S.ranges.map dPair)]
structure ShopOk (M N : Nat) (S : Shop) : Prop where
  s0 : S.sizes ≠ []
  sN : S.sizes.length ≤ N
  sa : asc S.sizes = true
  sb : ∀ x ∈ S.sizes, 1 ≤ x ∧ x ≤ 200000000
  r0 : S.ranges ≠ []
  rM : S.ranges.length ≤ M
  rb : ∀ p ∈ S.ranges, 1 ≤ p.1 ∧ p.1 ≤ p.2 ∧ p.2 ≤ 200000001
structure Stand (S : Shop) (st : List Int) : Prop where
  len : st.length = S.ranges.length
  mem : ∀ x ∈ st, x ∈ S.sizes
  nd : st.Nodup
  fit : ∀ (j : Nat) (x : Int) (p : Int × Int), st[j]? = some x → S.ranges[j]? = some p → p.1 ≤ x ∧ x ≤ p.2
theorem cut_first {ds : List PyData} {c : Int} (h0 : 0 ≤ c) : Rf.cutD ds none (some c) = ds.take c.toNat := by
  have e1 : HT.sIx ds.length 0 none = 0 := rfl
  have e2 : HT.sIx ds.length ds.length (some c) = min c.toNat ds.length := by simp only [HT.sIx]; rw [if_neg (by omega)]; try omega
  simp only [Rf.cutD, e1, e2, List.drop_zero, Nat.sub_zero]
  rcases Nat.le_total c.toNat ds.length with h | h
  · rw [Nat.min_eq_left h]
  · rw [Nat.min_eq_right h, List.take_of_length_le (Nat.le_refl _), List.take_of_length_le h]
def SpPlant (D : Dm) : Prop := ∀ (C : Int) (M N : Nat) (s : S0), Bx C s → C + 200 ≤ BC → 1 ≤ M → M ≤ N → N ≤ 12 → Ev D [s, .dat (.int (M : Nat)), .dat (.int (N : Nat))] fun r outs => ∃ S st s', r = .dat (.tuple [dShop S, .tuple (dI st)]) ∧ outs = [s', .dat (.int (M : Nat)), .dat (.int (N : Nat))] ∧ Bx (C + 100) s' ∧ ShopOk M N S ∧ Stand S st
theorem sp_plant {Tk G Sh Sn : Dm} (hT : SpTake Tk) (hG : SpGauges G) (hS : SpShuffled Sh) (hN : SpSpan Sn) : SpPlant (B_plant Tk G Sh Sn) := by
  intro C M N s hs hC hM hMN hN12
  have hC' : C + 200 ≤ 100000000 := hC
  obtain ⟨r, s1, a1, a2, a3, a4⟩ := hT _ (M : Nat) s hs (by show _ ≤ (100000000 : Int); omega) (by omega) (by omega)
  obtain ⟨u, s2, b1, b2, b3, b4⟩ := hT _ ((N : Nat) - (1 + r) + 1) s1 a3 (by show _ ≤ (100000000 : Int); omega) (by omega) (by omega)
  obtain ⟨T, hTe⟩ : ∃ T : Int, T = (if 1 + r + u < (N : Nat) then 1 + r + u else (N : Nat)) := ⟨_, rfl⟩
  have hT1 : 1 + r ≤ T ∧ T ≤ (N : Nat) := by rw [hTe]; split <;> omega
  obtain ⟨_, _, c1, gs, s3, rfl, rfl, c2, c3, c4, c5⟩ := hG _ T s2 b3 (by show _ ≤ (100000000 : Int); omega) (by omega) (by omega)
  obtain ⟨_, _, d1, ps, s4, rfl, rfl, d2, d3⟩ := hS _ s3 gs c2 (by show _ ≤ (100000000 : Int); omega) (by omega)
  have hpl := d3.length_eq
  obtain ⟨st, hst⟩ : ∃ st, st = ps.take (1 + r).toNat := ⟨_, rfl⟩
  have hcut : Rf.cutD (dI ps) none (some (1 + r)) = dI st := by rw [cut_first (by omega), hst]; exact (List.map_take).symm
  have hsl : (st.length : Int) = 1 + r := by rw [hst, List.length_take]; omega
  have hsm : ∀ x ∈ st, x ∈ gs := fun x m => d3.mem_iff.1 (List.mem_of_mem_take (by rw [← hst]; exact m))
  have hsn : st.Nodup := by rw [hst]; exact List.Nodup.sublist (List.take_sublist _ _) (d3.nodup_iff.2 (nodup_of_asc c4))
  obtain ⟨q, rfl⟩ := hs.own
  obtain ⟨q1, rfl⟩ := a3.own
  obtain ⟨q2, rfl⟩ := b3.own
  obtain ⟨q3, rfl⟩ := c2.own
  obtain ⟨q4, rfl⟩ := d2.own
  obtain ⟨out, fm', e1, e2, e3, s5, rfl, hs5⟩ := comp_inv (g := gSet 6) (me := mCall Sn (mFz (mCons (mVar 0) (mCons (mVar 4) (mCons (mVar 6) mNil))))) (vs := [6]) (fun k fm => ∃ s, fm = [some s, some (.dat (.int (M : Nat))), some (.dat (.int (N : Nat))), some (.dat (.int (1 + r))), some (.dat (.tuple (dI gs))), some (.dat (.tuple (dI st))), none] ∧ Bx (C + 28 + 5 * k) s) (fun k x => ∃ p : Int × Int, x = dPair p ∧ 1 ≤ p.1 ∧ p.2 ≤ 200000001 ∧ ∀ v, st[k]? = some v → p.1 ≤ v ∧ v ≤ p.2) (dI st) [] 0 [some (.own (.lst q4)), some (.dat (.int (M : Nat))), some (.dat (.int (N : Nat))), some (.dat (.int (1 + r))), some (.dat (.tuple (dI gs))), some (.dat (.tuple (dI st))), none] (by
    intro j d m fm i
    rw [Nat.zero_add] at i ⊢
    obtain ⟨s, rfl, i1⟩ := i
    rw [List.getElem?_map] at m
    obtain ⟨v, hv, rfl⟩ := Option.map_eq_some_iff.1 m
    have hjl := (List.getElem?_eq_some_iff.1 hv).1
    obtain ⟨_, _, f1, p, s', rfl, rfl, f2, f3, f4, f5, f6⟩ := hN _ v s gs i1 (by show _ ≤ (100000000 : Int); omega) (hsm v (List.mem_of_getElem? hv)) c4 (by omega) c5
    obtain ⟨q, rfl⟩ := i1.own
    obtain ⟨q', rfl⟩ := f2.own
    refine ⟨_, .dat (dPair p), _, _, _, rfl, by simp [Q3, Qd, Qe, Qf, Qg, Qh, Qi, Qj, Qk, Ql, Qm, Qn, Qo, Qp, Qq, Qr, Qs, Qt, Qu, Qv, Qw, Qx, Q7, Qy, Qz, QA, QB, Q8, Q4, QC, QD, QE, QF, QG, Q9, QH, QI, QJ, Qa, YV, QK, QL, QM, QN, QO, QP, QQ, QR, QS, QT, QU, QV, QW, QX, Q0, QY, QZ, Z0, Z1, Z2, Z3, Z4, Z5, Z6, Z7, Z8, Z9, Za, Zb, Zd, Ze, Zf, Zg, Zh, Zi, Zj, Zk, Zl, Zm, Zn, Zo, Zp, Zq, Zr, Zs, Zt, Zu, Zv, Zw, Q5, Zx, Zy, Zz, ZA, ZB, ZC, ZD, ZE, ZF, Qb, ZG, ZH, ZI, ZJ, ZK, ZL, ZM, Q6, ZN, ZO, ZP, ZQ, ZR, ZS, ZT, ZU, ZV, ZW, ZX, ZY, ZZ, Y0, Y1, Y2, Y3, Y4, Y5, Y6, Y7, Y8, Y9, Ya, Yb, Yc, Yd, Ye, Yf, Yg, Yh, Yi, Yj, Yk, Yl, Ym, Yn, Yo, Yp, Yq, Yr, Ys, Yt, Yu, Yv, Yw, Yx, Yy, Yz, YA, YB, YC, YD, YE, YF, YG, YH, YI, YJ, YK, YL, YM, YN, YO, Q1, Q2, Qc, YQ, YR, YS, YT, YU, frz, frzAll, peek, res1, resAll, stoAll, argOf, argsOf, bors, wback, outAt, outsFrom, ownsStay, retv, wipeF, unwipe, sto, isNone, tyD, cY, cMul, cMod, cDiv, cPow, Cell.dat, b2n, frzS, frzL, fzV, fMulL, excOf, frzO, f1]; (try first | rfl | exact ⟨rfl, rfl⟩ | exact ⟨rfl, rfl, rfl⟩ | exact ⟨rfl, rfl, rfl, rfl⟩ | exact ⟨rfl, rfl, rfl, rfl, rfl⟩), rfl, ⟨p, rfl, f3, f6, fun w hw => ?_⟩, _, by simp [wipeF]; (try first | rfl | exact ⟨rfl, rfl⟩ | exact ⟨rfl, rfl, rfl⟩ | exact ⟨rfl, rfl, rfl, rfl⟩ | exact ⟨rfl, rfl, rfl, rfl, rfl⟩), f2.mono (by omega)⟩
    rw [hv] at hw; cases hw; exact ⟨f4, f5⟩) ⟨_, rfl, d2.mono (by omega)⟩ (by rw [Q1]; simp; omega)
  simp only [List.nil_append, List.length_map] at e1 e2 e3 hs5
  obtain ⟨ps', hps⟩ : ∃ ps' : List (Int × Int), out = ps'.map dPair := by
    have : ∀ x ∈ out, ∃ p, x = dPair p := fun x m => by
      obtain ⟨j, hj⟩ := List.getElem?_of_mem m
      obtain ⟨p, hp, _⟩ := e3 j x hj
      exact ⟨p, hp⟩
    clear e1 e2 e3
    induction out with
    | nil => exact ⟨[], rfl⟩
    | cons x out ih =>
      obtain ⟨p, rfl⟩ := this x (by simp)
      obtain ⟨ps', rfl⟩ := ih fun x m => this x (by simp [m])
      exact ⟨p :: ps', rfl⟩
  subst hps
  simp only [List.length_map] at e2
  have pinj : ∀ {p p' : Int × Int}, dPair p = dPair p' → p = p' := fun {p p'} h => by
    simp only [dPair, PyData.tuple.injEq, List.cons.injEq, PyData.int.injEq, and_true] at h
    exact Prod.ext h.1 h.2
  have e4 : ∀ (j : Nat) (p : Int × Int), ps'[j]? = some p → 1 ≤ p.1 ∧ p.2 ≤ 200000001 ∧ ∀ v, st[j]? = some v → p.1 ≤ v ∧ v ≤ p.2 := fun j p hj => by
    obtain ⟨p', h1, h2, h3, h4⟩ := e3 j (dPair p) (by rw [List.getElem?_map, hj]; rfl)
    cases pinj h1
    rw [Nat.zero_add] at h4
    exact ⟨h2, h3, h4⟩
  refine mkD_wp rfl (wp_gh (by simp [Q3, Qd, Qe, Qf, Qg, Qh, Qi, Qj, Qk, Ql, Qm, Qn, Qo, Qp, Qq, Qr, Qs, Qt, Qu, Qv, Qw, Qx, Q7, Qy, Qz, QA, QB, Q8, Q4, QC, QD, QE, QF, QG, Q9, QH, QI, QJ, Qa, YV, QK, QL, QM, QN, QO, QP, QQ, QR, QS, QT, QU, QV, QW, QX, Q0, QY, QZ, Z0, Z1, Z2, Z3, Z4, Z5, Z6, Z7, Z8, Z9, Za, Zb, Zd, Ze, Zf, Zg, Zh, Zi, Zj, Zk, Zl, Zm, Zn, Zo, Zp, Zq, Zr, Zs, Zt, Zu, Zv, Zw, Q5, Zx, Zy, Zz, ZA, ZB, ZC, ZD, ZE, ZF, Qb, ZG, ZH, ZI, ZJ, ZK, ZL, ZM, Q6, ZN, ZO, ZP, ZQ, ZR, ZS, ZT, ZU, ZV, ZW, ZX, ZY, ZZ, Y0, Y1, Y2, Y3, Y4, Y5, Y6, Y7, Y8, Y9, Ya, Yb, Yc, Yd, Ye, Yf, Yg, Yh, Yi, Yj, Yk, Yl, Ym, Yn, Yo, Yp, Yq, Yr, Ys, Yt, Yu, Yv, Yw, Yx, Yy, Yz, YA, YB, YC, YD, YE, YF, YG, YH, YI, YJ, YK, YL, YM, YN, YO, Q1, Q2, Qc, YQ, YR, YS, YT, YU, frz, frzAll, peek, res1, resAll, stoAll, argOf, argsOf, bors, wback, outAt, outsFrom, ownsStay, retv, wipeF, unwipe, sto, isNone, tyD, cY, cMul, cMod, cDiv, cPow, Cell.dat, b2n, frzS, frzL, fzV, fMulL, excOf, frzO, a4]; (try first | rfl | exact ⟨rfl, rfl⟩ | exact ⟨rfl, rfl, rfl⟩ | exact ⟨rfl, rfl, rfl, rfl⟩ | exact ⟨rfl, rfl, rfl, rfl, rfl⟩)) (wp_gh (by simp [Q3, Qd, Qe, Qf, Qg, Qh, Qi, Qj, Qk, Ql, Qm, Qn, Qo, Qp, Qq, Qr, Qs, Qt, Qu, Qv, Qw, Qx, Q7, Qy, Qz, QA, QB, Q8, Q4, QC, QD, QE, QF, QG, Q9, QH, QI, QJ, Qa, YV, QK, QL, QM, QN, QO, QP, QQ, QR, QS, QT, QU, QV, QW, QX, Q0, QY, QZ, Z0, Z1, Z2, Z3, Z4, Z5, Z6, Z7, Z8, Z9, Za, Zb, Zd, Ze, Zf, Zg, Zh, Zi, Zj, Zk, Zl, Zm, Zn, Zo, Zp, Zq, Zr, Zs, Zt, Zu, Zv, Zw, Q5, Zx, Zy, Zz, ZA, ZB, ZC, ZD, ZE, ZF, Qb, ZG, ZH, ZI, ZJ, ZK, ZL, ZM, Q6, ZN, ZO, ZP, ZQ, ZR, ZS, ZT, ZU, ZV, ZW, ZX, ZY, ZZ, Y0, Y1, Y2, Y3, Y4, Y5, Y6, Y7, Y8, Y9, Ya, Yb, Yc, Yd, Ye, Yf, Yg, Yh, Yi, Yj, Yk, Yl, Ym, Yn, Yo, Yp, Yq, Yr, Ys, Yt, Yu, Yv, Yw, Yx, Yy, Yz, YA, YB, YC, YD, YE, YF, YG, YH, YI, YJ, YK, YL, YM, YN, YO, Q1, Q2, Qc, YQ, YR, YS, YT, YU, frz, frzAll, peek, res1, resAll, stoAll, argOf, argsOf, bors, wback, outAt, outsFrom, ownsStay, retv, wipeF, unwipe, sto, isNone, tyD, cY, cMul, cMod, cDiv, cPow, Cell.dat, b2n, frzS, frzL, fzV, fMulL, excOf, frzO, b4, ← hTe, c1]; (try first | rfl | exact ⟨rfl, rfl⟩ | exact ⟨rfl, rfl, rfl⟩ | exact ⟨rfl, rfl, rfl, rfl⟩ | exact ⟨rfl, rfl, rfl, rfl, rfl⟩)) (wp_gh (by simp [Q3, Qd, Qe, Qf, Qg, Qh, Qi, Qj, Qk, Ql, Qm, Qn, Qo, Qp, Qq, Qr, Qs, Qt, Qu, Qv, Qw, Qx, Q7, Qy, Qz, QA, QB, Q8, Q4, QC, QD, QE, QF, QG, Q9, QH, QI, QJ, Qa, YV, QK, QL, QM, QN, QO, QP, QQ, QR, QS, QT, QU, QV, QW, QX, Q0, QY, QZ, Z0, Z1, Z2, Z3, Z4, Z5, Z6, Z7, Z8, Z9, Za, Zb, Zd, Ze, Zf, Zg, Zh, Zi, Zj, Zk, Zl, Zm, Zn, Zo, Zp, Zq, Zr, Zs, Zt, Zu, Zv, Zw, Q5, Zx, Zy, Zz, ZA, ZB, ZC, ZD, ZE, ZF, Qb, ZG, ZH, ZI, ZJ, ZK, ZL, ZM, Q6, ZN, ZO, ZP, ZQ, ZR, ZS, ZT, ZU, ZV, ZW, ZX, ZY, ZZ, Y0, Y1, Y2, Y3, Y4, Y5, Y6, Y7, Y8, Y9, Ya, Yb, Yc, Yd, Ye, Yf, Yg, Yh, Yi, Yj, Yk, Yl, Ym, Yn, Yo, Yp, Yq, Yr, Ys, Yt, Yu, Yv, Yw, Yx, Yy, Yz, YA, YB, YC, YD, YE, YF, YG, YH, YI, YJ, YK, YL, YM, YN, YO, Q1, Q2, Qc, YQ, YR, YS, YT, YU, frz, frzAll, peek, res1, resAll, stoAll, argOf, argsOf, bors, wback, outAt, outsFrom, ownsStay, retv, wipeF, unwipe, sto, isNone, tyD, cY, cMul, cMod, cDiv, cPow, Cell.dat, b2n, frzS, frzL, fzV, fMulL, excOf, frzO, d1, hcut]; (try first | rfl | exact ⟨rfl, rfl⟩ | exact ⟨rfl, rfl, rfl⟩ | exact ⟨rfl, rfl, rfl, rfl⟩ | exact ⟨rfl, rfl, rfl, rfl, rfl⟩)) (wp_is (by simp [Q3, Qd, Qe, Qf, Qg, Qh, Qi, Qj, Qk, Ql, Qm, Qn, Qo, Qp, Qq, Qr, Qs, Qt, Qu, Qv, Qw, Qx, Q7, Qy, Qz, QA, QB, Q8, Q4, QC, QD, QE, QF, QG, Q9, QH, QI, QJ, Qa, YV, QK, QL, QM, QN, QO, QP, QQ, QR, QS, QT, QU, QV, QW, QX, Q0, QY, QZ, Z0, Z1, Z2, Z3, Z4, Z5, Z6, Z7, Z8, Z9, Za, Zb, Zd, Ze, Zf, Zg, Zh, Zi, Zj, Zk, Zl, Zm, Zn, Zo, Zp, Zq, Zr, Zs, Zt, Zu, Zv, Zw, Q5, Zx, Zy, Zz, ZA, ZB, ZC, ZD, ZE, ZF, Qb, ZG, ZH, ZI, ZJ, ZK, ZL, ZM, Q6, ZN, ZO, ZP, ZQ, ZR, ZS, ZT, ZU, ZV, ZW, ZX, ZY, ZZ, Y0, Y1, Y2, Y3, Y4, Y5, Y6, Y7, Y8, Y9, Ya, Yb, Yc, Yd, Ye, Yf, Yg, Yh, Yi, Yj, Yk, Yl, Ym, Yn, Yo, Yp, Yq, Yr, Ys, Yt, Yu, Yv, Yw, Yx, Yy, Yz, YA, YB, YC, YD, YE, YF, YG, YH, YI, YJ, YK, YL, YM, YN, YO, Q1, Q2, Qc, YQ, YR, YS, YT, YU, frz, frzAll, peek, res1, resAll, stoAll, argOf, argsOf, bors, wback, outAt, outsFrom, ownsStay, retv, wipeF, unwipe, sto, isNone, tyD, cY, cMul, cMod, cDiv, cPow, Cell.dat, b2n, frzS, frzL, fzV, fMulL, excOf, frzO, e1]; (try first | rfl | exact ⟨rfl, rfl⟩ | exact ⟨rfl, rfl, rfl⟩ | exact ⟨rfl, rfl, rfl, rfl⟩ | exact ⟨rfl, rfl, rfl, rfl, rfl⟩)) ⟨_, _, _, _, rfl, rfl, by simp [Q3, Qd, Qe, Qf, Qg, Qh, Qi, Qj, Qk, Ql, Qm, Qn, Qo, Qp, Qq, Qr, Qs, Qt, Qu, Qv, Qw, Qx, Q7, Qy, Qz, QA, QB, Q8, Q4, QC, QD, QE, QF, QG, Q9, QH, QI, QJ, Qa, YV, QK, QL, QM, QN, QO, QP, QQ, QR, QS, QT, QU, QV, QW, QX, Q0, QY, QZ, Z0, Z1, Z2, Z3, Z4, Z5, Z6, Z7, Z8, Z9, Za, Zb, Zd, Ze, Zf, Zg, Zh, Zi, Zj, Zk, Zl, Zm, Zn, Zo, Zp, Zq, Zr, Zs, Zt, Zu, Zv, Zw, Q5, Zx, Zy, Zz, ZA, ZB, ZC, ZD, ZE, ZF, Qb, ZG, ZH, ZI, ZJ, ZK, ZL, ZM, Q6, ZN, ZO, ZP, ZQ, ZR, ZS, ZT, ZU, ZV, ZW, ZX, ZY, ZZ, Y0, Y1, Y2, Y3, Y4, Y5, Y6, Y7, Y8, Y9, Ya, Yb, Yc, Yd, Ye, Yf, Yg, Yh, Yi, Yj, Yk, Yl, Ym, Yn, Yo, Yp, Yq, Yr, Ys, Yt, Yu, Yv, Yw, Yx, Yy, Yz, YA, YB, YC, YD, YE, YF, YG, YH, YI, YJ, YK, YL, YM, YN, YO, Q1, Q2, Qc, YQ, YR, YS, YT, YU, frz, frzAll, peek, res1, resAll, stoAll, argOf, argsOf, bors, wback, outAt, outsFrom, ownsStay, retv, wipeF, unwipe, sto, isNone, tyD, cY, cMul, cMod, cDiv, cPow, Cell.dat, b2n, frzS, frzL, fzV, fMulL, excOf, frzO]; (try first | rfl | exact ⟨rfl, rfl⟩ | exact ⟨rfl, rfl, rfl⟩ | exact ⟨rfl, rfl, rfl, rfl⟩ | exact ⟨rfl, rfl, rfl, rfl, rfl⟩), ⟨gs, ps'⟩, st, s5, rfl, rfl, hs5.mono (by omega), ⟨?_, by dsimp only; omega, c4, c5, ?_, by dsimp only; omega, ?_⟩, ⟨by dsimp only; omega, hsm, hsn, fun j x p hx hp => (e4 j p hp).2.2 x hx⟩⟩))))
  · intro h; dsimp only at h; subst h; simp at c3; omega
  · intro h; dsimp only at h; subst h; simp at e2; omega
  · intro p m
    obtain ⟨j, hj⟩ := List.getElem?_of_mem m
    obtain ⟨h1, h2, h3⟩ := e4 j p hj
    have hjl := (List.getElem?_eq_some_iff.1 hj).1
    dsimp only at hjl
    obtain ⟨h4, h5⟩ := h3 (st[j]'(by omega)) (by simp)
    omega
end Rf

namespace Rf
open PySem PySem.Spec PyProof.Rows L2
def sq : Bool → List PyData → PyData
  | true, ds => .tuple ds
  | false, ds => .list ds
def pairD (b : Bool) (p : Int × Int) : PyData := sq b [.int p.1, .int p.2]
def shopD (b : Bool) (S : Shop) : PyData := sq b [sq b (dI S.sizes), sq b (S.ranges.map (pairD b))]
theorem shopD_t (S : Shop) : shopD true S = dShop S := rfl
theorem comp_lookM {α : Type} {g : MG} {mt : MT} {me : ME} {vs : List Nat} (fm : Fm) (enc : α → PyData) (p : α → Bool) (f : α → PyData) (l : List α) (h : ∀ a ∈ l, ∃ fm1 fm2, g (enc a) fm = some fm1 ∧ mt fm1 = some (p a, fm2) ∧ (p a = false → wipeF fm2 vs = fm) ∧ (p a = true → ∃ v fm3 fm4, me fm2 = some (v, fm3) ∧ frz v fm3 = some (f a, fm4) ∧ wipeF fm4 vs = fm)) : ∀ (acc : List PyData), acc.length + l.length ≤ sizeLine →
    compM g mt me vs (l.map enc) fm acc = some (acc ++ (l.filter p).map f, fm) := by
  induction l with
  | nil => intro acc _; simp [compM]
  | cons a l ih =>
    intro acc hs
    obtain ⟨fm1, fm2, h1, h2, h3, h4⟩ := h a (by simp)
    have h5 : acc.length < sizeLine := by simp at hs; omega
    have ih := ih fun a m => h a (by simp [m])
    cases hp : p a with
    | false =>
      have ih := ih acc (by simp at hs ⊢; omega)
      simp only [List.map_cons, compM, h1, h2, hp, h3 hp, ih, List.filter_cons, Bool.false_eq_true, ↓reduceIte]
    | true =>
      obtain ⟨v, fm3, fm4, k1, k2, k3⟩ := h4 hp
      have ih := ih (acc ++ [f a]) (by simp at hs ⊢; omega)
      simp only [List.map_cons, compM, h1, h2, hp, k1, k2, k3, if_pos h5, ih, List.filter_cons, ↓reduceIte, List.map_cons, List.append_assoc, List.cons_append, List.nil_append]
theorem lc_pure {α : Type} {n : Nat} {mi : MI} {g : MG} {mt : MT} {me : ME} {vs : List Nat} {fm fm1 fmw fm3 : Fm} (enc : α → PyData) (p : α → Bool) (f : α → PyData) (l : List α) (hmi : mi fm = some (l.map enc, fm1)) (hn : fm.length ≤ n) (hw : wipeF fm1 vs = fmw) (hu : unwipe fm1 fmw vs = some fm3) (hl : l.length ≤ 16777216)
    (h : ∀ a ∈ l, ∃ fm2, g (enc a) fmw = some fm2 ∧ mt fm2 = some (p a, fm2) ∧ (p a = true → ∃ v, me fm2 = some (v, fm2) ∧ frz v fm2 = some (f a, fm2)) ∧ wipeF fm2 vs = fmw) : mLc n mi g mt me vs fm = some (.fre (.lst ((l.filter p).map f)), fm3) := by
  have := comp_lookM (g := g) (mt := mt) (me := me) (vs := vs) fmw enc p f l (fun a m => by
    obtain ⟨fm2, h1, h2, h3, h4⟩ := h a m
    exact ⟨fm2, fm2, h1, h2, fun _ => h4, fun hp => by obtain ⟨v, k1, k2⟩ := h3 hp; exact ⟨v, fm2, fm2, k1, k2, h4⟩⟩) [] (by rw [Q1]; simpa using hl)
  rw [YV, hmi]
  simp only [hn, ↓reduceIte, hw, this, List.nil_append, hu]
theorem lc_all {α : Type} {n : Nat} {mi : MI} {g : MG} {me : ME} {vs : List Nat} {fm fm1 fmw fm3 : Fm} (enc : α → PyData) (f : α → PyData) (l : List α) (hmi : mi fm = some (l.map enc, fm1)) (hn : fm.length ≤ n) (hw : wipeF fm1 vs = fmw) (hu : unwipe fm1 fmw vs = some fm3) (hl : l.length ≤ 16777216)
    (h : ∀ a ∈ l, ∃ fm2 v, g (enc a) fmw = some fm2 ∧ me fm2 = some (v, fm2) ∧ frz v fm2 = some (f a, fm2) ∧ wipeF fm2 vs = fmw) : mLc n mi g mYes me vs fm = some (.fre (.lst (l.map f)), fm3) := by
  have := lc_pure (n := n) (mi := mi) (g := g) (mt := mYes) (me := me) (vs := vs) (fm := fm) (fm1 := fm1) (fmw := fmw) (fm3 := fm3) enc (fun _ => true) f l hmi hn hw hu hl (fun a m => by
    obtain ⟨fm2, v, h1, h2, h3, h4⟩ := h a m
    exact ⟨fm2, h1, rfl, fun _ => ⟨v, h2, h3⟩, h4⟩)
  rwa [List.filter_eq_self.2 (fun _ _ => rfl)] at this
end Rf

namespace Rf
open PySem PySem.Spec PyProof.Rows L2
def SpRight (c : Int) (D : Dm) : Prop := ∀ (C : Int) (s : S0), Bx C s → C + c ≤ BC → Ev D [s] fun r outs => r = .dat (.bool true) ∧ ∃ s', outs = [s'] ∧ Bx (C + c) s'
theorem bools_all {l : List PyData} (h : ∀ (j : Nat) (x : PyData), l[j]? = some x → x = .bool true) : ∃ bs, boolsD l = some bs ∧ bs.all id = true := by
  induction l with
  | nil => exact ⟨[], rfl, rfl⟩
  | cons x l ih =>
    obtain rfl := h 0 x rfl
    obtain ⟨bs, e1, e2⟩ := ih fun j x hj => h (j + 1) x (by simpa using hj)
    exact ⟨true :: bs, by simp [boolsD, e1], by simpa using e2⟩
theorem law_gen {A T c : Int} (hA : 0 ≤ A) (hA3 : A ≤ 3) (hT : 0 ≤ T) (hT4 : T ≤ 4) (hc : 0 ≤ c) (hc1 : c ≤ 20000000) {X R D : Dm} (hX : SpBox X) (hR : SpRight c R) (hD : D = mkD 1 4 [0]
    (mSeq (mFor (iRan (mCons (m2 fAddX (mLit (.int 1)) (mB1 fMin2 (mCons (mLit (.int A)) (mCons (mB1 fLen (mCons (mVar 0) mNil)) mNil)))) mNil)) (gSet 1) (mSeq (mSet 2 (mCall X (mFz (mCons (mVar 0) (mCons (mVar 1) mNil)))))
    (mIf (mNotT (mB (mB1 fAll (mCons (mLc 4 (iRan (mCons (mLit (.int T)) mNil)) (gSet 3) mYes (mCall R (mFz (mCons (mVar 2) mNil))) [3]) mNil)))) (mRet (mLit (.bool false))) mNext)))
    (mRet (mLit (.bool true))))) (ns : List Int) (hn : ns.length ≤ 63) : ∃ outs, D [.dat (scr ns)] = some (.dat (.bool true), outs) := by
  subst hD
  have e2 : scr ns = .list (dI ns) := rfl
  obtain ⟨N, hN⟩ : ∃ N : Int, N = 1 + (if (ns.length : Int) < A then (ns.length : Int) else A) := ⟨_, rfl⟩
  have hN1 : 0 ≤ N ∧ N ≤ 4 := by rw [hN]; split <;> omega
  have w1 : -4611686018427387904 ≤ N := by omega
  have w2 : N < 4611686018427387904 := by omega
  have w3 : -4611686018427387904 ≤ T := by omega
  have w4 : T < 4611686018427387904 := by omega
  have main : Ev (mkD 1 4 [0]
    (mSeq (mFor (iRan (mCons (m2 fAddX (mLit (.int 1)) (mB1 fMin2 (mCons (mLit (.int A)) (mCons (mB1 fLen (mCons (mVar 0) mNil)) mNil)))) mNil)) (gSet 1) (mSeq (mSet 2 (mCall X (mFz (mCons (mVar 0) (mCons (mVar 1) mNil)))))
    (mIf (mNotT (mB (mB1 fAll (mCons (mLc 4 (iRan (mCons (mLit (.int T)) mNil)) (gSet 3) mYes (mCall R (mFz (mCons (mVar 2) mNil))) [3]) mNil)))) (mRet (mLit (.bool false))) mNext)))
    (mRet (mLit (.bool true))))) [.dat (scr ns)] fun r outs => r = .dat (.bool true) := by
    refine mkD_wp rfl (wp_seq (wp_for (ds := Rf.intsFrom 0 N.toNat) (fm0 := [some (.dat (scr ns)), none, none, none]) (fun k fm => ∃ x1 x2, fm = [some (.dat (scr ns)), x1, x2, none]) ?_ ⟨_, _, rfl⟩ ?_ ?_))
    · simp [Q3, Qd, Qe, Qf, Qg, Qh, Qi, Qj, Qk, Ql, Qm, Qn, Qo, Qp, Qq, Qr, Qs, Qt, Qu, Qv, Qw, Qx, Q7, Qy, Qz, QA, QB, Q8, Q4, QC, QD, QE, QF, QG, Q9, QH, QI, QJ, Qa, YV, QK, QL, QM, QN, QO, QP, QQ, QR, QS, QT, QU, QV, QW, QX, Q0, QY, QZ, Z0, Z1, Z2, Z3, Z4, Z5, Z6, Z7, Z8, Z9, Za, Zb, Zd, Ze, Zf, Zg, Zh, Zi, Zj, Zk, Zl, Zm, Zn, Zo, Zp, Zq, Zr, Zs, Zt, Zu, Zv, Zw, Q5, Zx, Zy, Zz, ZA, ZB, ZC, ZD, ZE, ZF, Qb, ZG, ZH, ZI, ZJ, ZK, ZL, ZM, Q6, ZN, ZO, ZP, ZQ, ZR, ZS, ZT, ZU, ZV, ZW, ZX, ZY, ZZ, Y0, Y1, Y2, Y3, Y4, Y5, Y6, Y7, Y8, Y9, Ya, Yb, Yc, Yd, Ye, Yf, Yg, Yh, Yi, Yj, Yk, Yl, Ym, Yn, Yo, Yp, Yq, Yr, Ys, Yt, Yu, Yv, Yw, Yx, Yy, Yz, YA, YB, YC, YD, YE, YF, YG, YH, YI, YJ, YK, YL, YM, YN, YO, Q1, Q2, Qc, YQ, YR, YS, YT, YU, frz, frzAll, peek, res1, resAll, stoAll, argOf, argsOf, bors, wback, outAt, outsFrom, ownsStay, retv, wipeF, unwipe, sto, isNone, tyD, cY, cMul, cMod, cDiv, cPow, Cell.dat, b2n, frzS, frzL, fzV, atI, ixN, fMulL, excOf, frzO, e2, hN]
      rw [hN] at w1 w2
      exact ⟨w1, w2⟩
    · intro j d m fm i
      obtain ⟨rfl, hj⟩ := ints_get0 m
      obtain ⟨x1, x2, rfl⟩ := i
      obtain ⟨cc, b1, b2⟩ := hX ns ((j : Nat) : Int) (by omega) (by omega) hn
      refine ⟨_, rfl, wp_nx (fm1 := [some (.dat (scr ns)), some (.dat (.int (j : Nat))), some (.own cc), none]) (by simp [Q3, Qd, Qe, Qf, Qg, Qh, Qi, Qj, Qk, Ql, Qm, Qn, Qo, Qp, Qq, Qr, Qs, Qt, Qu, Qv, Qw, Qx, Q7, Qy, Qz, QA, QB, Q8, Q4, QC, QD, QE, QF, QG, Q9, QH, QI, QJ, Qa, YV, QK, QL, QM, QN, QO, QP, QQ, QR, QS, QT, QU, QV, QW, QX, Q0, QY, QZ, Z0, Z1, Z2, Z3, Z4, Z5, Z6, Z7, Z8, Z9, Za, Zb, Zd, Ze, Zf, Zg, Zh, Zi, Zj, Zk, Zl, Zm, Zn, Zo, Zp, Zq, Zr, Zs, Zt, Zu, Zv, Zw, Q5, Zx, Zy, Zz, ZA, ZB, ZC, ZD, ZE, ZF, Qb, ZG, ZH, ZI, ZJ, ZK, ZL, ZM, Q6, ZN, ZO, ZP, ZQ, ZR, ZS, ZT, ZU, ZV, ZW, ZX, ZY, ZZ, Y0, Y1, Y2, Y3, Y4, Y5, Y6, Y7, Y8, Y9, Ya, Yb, Yc, Yd, Ye, Yf, Yg, Yh, Yi, Yj, Yk, Yl, Ym, Yn, Yo, Yp, Yq, Yr, Ys, Yt, Yu, Yv, Yw, Yx, Yy, Yz, YA, YB, YC, YD, YE, YF, YG, YH, YI, YJ, YK, YL, YM, YN, YO, Q1, Q2, Qc, YQ, YR, YS, YT, YU, frz, frzAll, peek, res1, resAll, stoAll, argOf, argsOf, bors, wback, outAt, outsFrom, ownsStay, retv, wipeF, unwipe, sto, isNone, tyD, cY, cMul, cMod, cDiv, cPow, Cell.dat, b2n, frzS, frzL, fzV, atI, ixN, fMulL, excOf, frzO, b2]) ?_⟩
      obtain ⟨out, fm', c1, c2, c3, s', rfl, c4⟩ := comp_inv (g := gSet 3) (me := mCall R (mFz (mCons (mVar 2) mNil))) (vs := [3]) (fun k fm => ∃ s, fm = [some (.dat (scr ns)), some (.dat (.int (j : Nat))), some s, none] ∧ Bx (c * k) s) (fun _ x => x = .bool true) (Rf.intsFrom 0 T.toNat) [] 0 [some (.dat (scr ns)), some (.dat (.int (j : Nat))), some (.own cc), none] (by
        intro j' d m fm i
        rw [Nat.zero_add] at i ⊢
        obtain ⟨rfl, hj'⟩ := ints_get0 m
        obtain ⟨s, rfl, i1⟩ := i
        have hcj : c * (j' : Int) ≤ c * 4 := Int.mul_le_mul_of_nonneg_left (by omega) hc
        obtain ⟨_, _, f1, rfl, s', rfl, f2⟩ := hR _ s i1 (by show _ ≤ (100000000 : Int); omega)
        obtain ⟨q, rfl⟩ := i1.own
        obtain ⟨q', rfl⟩ := f2.own
        have e5 : c * ((j' + 1 : Nat) : Int) = c * (j' : Int) + c := by rw [Int.natCast_add, Int.mul_add]; simp
        exact ⟨_, .dat (.bool true), _, _, _, rfl, by simp [Q3, Qd, Qe, Qf, Qg, Qh, Qi, Qj, Qk, Ql, Qm, Qn, Qo, Qp, Qq, Qr, Qs, Qt, Qu, Qv, Qw, Qx, Q7, Qy, Qz, QA, QB, Q8, Q4, QC, QD, QE, QF, QG, Q9, QH, QI, QJ, Qa, YV, QK, QL, QM, QN, QO, QP, QQ, QR, QS, QT, QU, QV, QW, QX, Q0, QY, QZ, Z0, Z1, Z2, Z3, Z4, Z5, Z6, Z7, Z8, Z9, Za, Zb, Zd, Ze, Zf, Zg, Zh, Zi, Zj, Zk, Zl, Zm, Zn, Zo, Zp, Zq, Zr, Zs, Zt, Zu, Zv, Zw, Q5, Zx, Zy, Zz, ZA, ZB, ZC, ZD, ZE, ZF, Qb, ZG, ZH, ZI, ZJ, ZK, ZL, ZM, Q6, ZN, ZO, ZP, ZQ, ZR, ZS, ZT, ZU, ZV, ZW, ZX, ZY, ZZ, Y0, Y1, Y2, Y3, Y4, Y5, Y6, Y7, Y8, Y9, Ya, Yb, Yc, Yd, Ye, Yf, Yg, Yh, Yi, Yj, Yk, Yl, Ym, Yn, Yo, Yp, Yq, Yr, Ys, Yt, Yu, Yv, Yw, Yx, Yy, Yz, YA, YB, YC, YD, YE, YF, YG, YH, YI, YJ, YK, YL, YM, YN, YO, Q1, Q2, Qc, YQ, YR, YS, YT, YU, frz, frzAll, peek, res1, resAll, stoAll, argOf, argsOf, bors, wback, outAt, outsFrom, ownsStay, retv, wipeF, unwipe, sto, isNone, tyD, cY, cMul, cMod, cDiv, cPow, Cell.dat, b2n, frzS, frzL, fzV, atI, ixN, fMulL, excOf, frzO, f1]; (try first | rfl | exact ⟨rfl, rfl⟩ | exact ⟨rfl, rfl, rfl⟩ | exact ⟨rfl, rfl, rfl, rfl⟩ | exact ⟨rfl, rfl, rfl, rfl, rfl⟩), rfl, rfl, _, by simp [wipeF]; (try first | rfl | exact ⟨rfl, rfl⟩ | exact ⟨rfl, rfl, rfl⟩ | exact ⟨rfl, rfl, rfl, rfl⟩ | exact ⟨rfl, rfl, rfl, rfl, rfl⟩), by rw [e5]; exact f2⟩) ⟨_, rfl, by simpa using b1⟩ (by rw [ints_len, Q1]; simp; omega)
      obtain ⟨bs, k1, k2⟩ := bools_all c3
      simp only [List.nil_append] at c1
      exact wp_is (fl := .nx) (by simp [Q3, Qd, Qe, Qf, Qg, Qh, Qi, Qj, Qk, Ql, Qm, Qn, Qo, Qp, Qq, Qr, Qs, Qt, Qu, Qv, Qw, Qx, Q7, Qy, Qz, QA, QB, Q8, Q4, QC, QD, QE, QF, QG, Q9, QH, QI, QJ, Qa, YV, QK, QL, QM, QN, QO, QP, QQ, QR, QS, QT, QU, QV, QW, QX, Q0, QY, QZ, Z0, Z1, Z2, Z3, Z4, Z5, Z6, Z7, Z8, Z9, Za, Zb, Zd, Ze, Zf, Zg, Zh, Zi, Zj, Zk, Zl, Zm, Zn, Zo, Zp, Zq, Zr, Zs, Zt, Zu, Zv, Zw, Q5, Zx, Zy, Zz, ZA, ZB, ZC, ZD, ZE, ZF, Qb, ZG, ZH, ZI, ZJ, ZK, ZL, ZM, Q6, ZN, ZO, ZP, ZQ, ZR, ZS, ZT, ZU, ZV, ZW, ZX, ZY, ZZ, Y0, Y1, Y2, Y3, Y4, Y5, Y6, Y7, Y8, Y9, Ya, Yb, Yc, Yd, Ye, Yf, Yg, Yh, Yi, Yj, Yk, Yl, Ym, Yn, Yo, Yp, Yq, Yr, Ys, Yt, Yu, Yv, Yw, Yx, Yy, Yz, YA, YB, YC, YD, YE, YF, YG, YH, YI, YJ, YK, YL, YM, YN, YO, Q1, Q2, Qc, YQ, YR, YS, YT, YU, frz, frzAll, peek, res1, resAll, stoAll, argOf, argsOf, bors, wback, outAt, outsFrom, ownsStay, retv, wipeF, unwipe, sto, isNone, tyD, cY, cMul, cMod, cDiv, cPow, Cell.dat, b2n, frzS, frzL, fzV, atI, ixN, fMulL, excOf, frzO, w3, w4, c1, k1, k2]; (try first | rfl | exact ⟨rfl, rfl⟩ | exact ⟨rfl, rfl, rfl⟩ | exact ⟨rfl, rfl, rfl, rfl⟩ | exact ⟨rfl, rfl, rfl, rfl, rfl⟩)) ⟨rfl, _, _, rfl⟩
    · intro fm' i
      obtain ⟨x1, x2, rfl⟩ := i
      exact ⟨rfl, wp_is (by simp [Q3, Qd, Qe, Qf, Qg, Qh, Qi, Qj, Qk, Ql, Qm, Qn, Qo, Qp, Qq, Qr, Qs, Qt, Qu, Qv, Qw, Qx, Q7, Qy, Qz, QA, QB, Q8, Q4, QC, QD, QE, QF, QG, Q9, QH, QI, QJ, Qa, YV, QK, QL, QM, QN, QO, QP, QQ, QR, QS, QT, QU, QV, QW, QX, Q0, QY, QZ, Z0, Z1, Z2, Z3, Z4, Z5, Z6, Z7, Z8, Z9, Za, Zb, Zd, Ze, Zf, Zg, Zh, Zi, Zj, Zk, Zl, Zm, Zn, Zo, Zp, Zq, Zr, Zs, Zt, Zu, Zv, Zw, Q5, Zx, Zy, Zz, ZA, ZB, ZC, ZD, ZE, ZF, Qb, ZG, ZH, ZI, ZJ, ZK, ZL, ZM, Q6, ZN, ZO, ZP, ZQ, ZR, ZS, ZT, ZU, ZV, ZW, ZX, ZY, ZZ, Y0, Y1, Y2, Y3, Y4, Y5, Y6, Y7, Y8, Y9, Ya, Yb, Yc, Yd, Ye, Yf, Yg, Yh, Yi, Yj, Yk, Yl, Ym, Yn, Yo, Yp, Yq, Yr, Ys, Yt, Yu, Yv, Yw, Yx, Yy, Yz, YA, YB, YC, YD, YE, YF, YG, YH, YI, YJ, YK, YL, YM, YN, YO, Q1, Q2, Qc, YQ, YR, YS, YT, YU, frz, frzAll, peek, res1, resAll, stoAll, argOf, argsOf, bors, wback, outAt, outsFrom, ownsStay, retv, wipeF, unwipe, sto, isNone, tyD, cY, cMul, cMod, cDiv, cPow, Cell.dat, b2n, frzS, frzL, fzV, atI, ixN, fMulL, excOf, frzO]; (try first | rfl | exact ⟨rfl, rfl⟩ | exact ⟨rfl, rfl, rfl⟩ | exact ⟨rfl, rfl, rfl, rfl⟩ | exact ⟨rfl, rfl, rfl, rfl, rfl⟩)) ⟨_, _, _, _, rfl, rfl, by simp [Q3, Qd, Qe, Qf, Qg, Qh, Qi, Qj, Qk, Ql, Qm, Qn, Qo, Qp, Qq, Qr, Qs, Qt, Qu, Qv, Qw, Qx, Q7, Qy, Qz, QA, QB, Q8, Q4, QC, QD, QE, QF, QG, Q9, QH, QI, QJ, Qa, YV, QK, QL, QM, QN, QO, QP, QQ, QR, QS, QT, QU, QV, QW, QX, Q0, QY, QZ, Z0, Z1, Z2, Z3, Z4, Z5, Z6, Z7, Z8, Z9, Za, Zb, Zd, Ze, Zf, Zg, Zh, Zi, Zj, Zk, Zl, Zm, Zn, Zo, Zp, Zq, Zr, Zs, Zt, Zu, Zv, Zw, Q5, Zx, Zy, Zz, ZA, ZB, ZC, ZD, ZE, ZF, Qb, ZG, ZH, ZI, ZJ, ZK, ZL, ZM, Q6, ZN, ZO, ZP, ZQ, ZR, ZS, ZT, ZU, ZV, ZW, ZX, ZY, ZZ, Y0, Y1, Y2, Y3, Y4, Y5, Y6, Y7, Y8, Y9, Ya, Yb, Yc, Yd, Ye, Yf, Yg, Yh, Yi, Yj, Yk, Yl, Ym, Yn, Yo, Yp, Yq, Yr, Ys, Yt, Yu, Yv, Yw, Yx, Yy, Yz, YA, YB, YC, YD, YE, YF, YG, YH, YI, YJ, YK, YL, YM, YN, YO, Q1, Q2, Qc, YQ, YR, YS, YT, YU, frz, frzAll, peek, res1, resAll, stoAll, argOf, argsOf, bors, wback, outAt, outsFrom, ownsStay, retv, wipeF, unwipe, sto, isNone, tyD, cY, cMul, cMod, cDiv, cPow, Cell.dat, b2n, frzS, frzL, fzV, atI, ixN, fMulL, excOf, frzO]; (try first | rfl | exact ⟨rfl, rfl⟩ | exact ⟨rfl, rfl, rfl⟩ | exact ⟨rfl, rfl, rfl, rfl⟩ | exact ⟨rfl, rfl, rfl, rfl, rfl⟩), rfl⟩⟩
  obtain ⟨r, outs, e, rfl⟩ := main
  exact ⟨outs, e⟩
end Rf

namespace Rf
open PySem PySem.Spec PyProof.Rows L2
theorem szA_le {c : Nat} : ∀ {ds : List PyData}, (∀ x ∈ ds, sz x ≤ c) → szA ds ≤ ds.length * (c + 2)
  | [], _ => by simp [szA_nil]
  | d :: ds, h => by
    have h1 := h d (by simp)
    have h2 := szA_le (ds := ds) fun x m => h x (by simp [m])
    rw [szA_cons, List.length_cons, Nat.add_mul]
    omega
theorem sz_int (i : Int) : sz (.int i) = 60 := by simp [sz]
theorem sz_tup (ds : List PyData) : sz (.tuple ds) = szA ds + 10 := by simp [sz]
theorem sz_list (ds : List PyData) : sz (.list ds) = szA ds + 10 := by simp [sz]
theorem sz_dI (l : List Int) : szA (dI l) ≤ l.length * 62 := by
  have := szA_le (c := 60) (ds := dI l) fun x m => by obtain ⟨i, _, rfl⟩ := List.mem_map.1 m; exact Nat.le_of_eq (sz_int i)
  simpa using this
mutual
theorem eqv_refl : ∀ {l b h : Nat} (d : PyData), Ok l b h d → PyData.eqv d d = true
  | _, _, _, .none, _ => by simp [PyData.eqv]
  | _, _, _, .bool _, _ => by simp [PyData.eqv]
  | _, _, _, .int _, _ => by simp [PyData.eqv]
  | _, _, _, .str _, _ => by simp [PyData.eqv]
  | l, b, h + 1, .list ds, o => by
    have := eqvA_refl (l := l) (b := b) (h := h) ds o.2
    simpa [PyData.eqv] using this
  | l, b, h + 1, .tuple ds, o => by
    have := eqvA_refl (l := l) (b := b) (h := h) ds o.2
    simpa [PyData.eqv] using this
  | _, _, 0, .list ds, o => by simp [Ok] at o
  | _, _, 0, .tuple ds, o => by simp [Ok] at o
  | _, _, _, .dict _, o => by simp [Ok] at o
theorem eqvA_refl : ∀ {l b h : Nat} (ds : List PyData), (∀ x ∈ ds, Ok l b h x) → PyData.eqvAll ds ds = true
  | _, _, _, [], _ => by simp [PyData.eqvAll]
  | l, b, h, d :: ds, o => by
    have h1 := eqv_refl d (o d (by simp))
    have h2 := eqvA_refl ds fun x m => o x (by simp [m])
    simp [PyData.eqvAll, h1, h2]
end
theorem in_ints (x : Int) : ∀ gs : List Int, ((dI gs).any fun z => PyData.eqv z (.int x)) = decide (x ∈ gs)
  | [] => by simp
  | g :: gs => by
    have ih := in_ints x gs
    simp only [List.map_cons, List.any_cons, ih, Qc]
    by_cases h : g = x
    · subst h; simp
    · have : x ≠ g := fun e => h e.symm
      simp [h, this]
theorem shaped_intsT (l : List Int) (h : l.length ≤ 1000000) : SeqAt.shaped (.tuple (dI l)) = true := by
  have := shaped_ints l
  simpa [SeqAt.shaped, PyData.canLay0, PyData.depth] using this
end Rf

namespace Rf
open PySem PySem.Spec PyProof.Rows L2
abbrev Shop.has (S : Shop) (m : Int) : Prop := 0 ≤ m ∧ m < S.ranges.length
def Shop.fit (S : Shop) (m x : Int) : Bool := match S.ranges[m.toNat]? with
  | some p => decide (p.1 ≤ x) && decide (x ≤ p.2)
  | none => false
theorem has_at {S : Shop} {m : Int} (h : S.has m) : ∃ p, S.ranges[m.toNat]? = some p ∧ ∀ f : Int × Int → PyData, atI (S.ranges.map f) m = some (f p) := by
  obtain ⟨h0, h1⟩ := h
  have hm : m.toNat < S.ranges.length := by omega
  exact ⟨S.ranges[m.toNat], List.getElem?_eq_getElem hm, fun f => by simp [atI, ixN, h0, h1, hm]⟩
theorem fIx_of {ds : List PyData} {m : Int} {d : PyData} (h : atI ds m = some d) (b : Bool) (fm : Fm) : fIx (.dat (sq b ds)) (.dat (.int m)) fm = some (.dat d, fm) := by
  cases b <;> simp only [sq, Q0, peek, h, Option.map_some]
theorem ixS0 (b : Bool) (S : Shop) (fm : Fm) : fIx (.dat (shopD b S)) (.dat (.int 0)) fm = some (.dat (sq b (dI S.sizes)), fm) := fIx_of rfl b fm
theorem ixS1 (b : Bool) (S : Shop) (fm : Fm) : fIx (.dat (shopD b S)) (.dat (.int 1)) fm = some (.dat (sq b (S.ranges.map (pairD b))), fm) := fIx_of rfl b fm
def SpFitsL (D : Dm) : Prop := ∀ (S : Shop) (m x : Int), S.has m → D [.dat (dShop S), .dat (.int m), .dat (.int x)] = some (.dat (.bool (S.fit m x)), [.dat (dShop S), .dat (.int m), .dat (.int x)])
theorem sp_fitsL : SpFitsL B_fits := by
  intro S m x h
  obtain ⟨p, e, e2⟩ := has_at h
  have e3 := fun fm => fIx_of (e2 (pairD true)) true fm
  have e4 : ∀ fm : Fm, fIx (.dat (pairD true p)) (.dat (.int 0)) fm = some (.dat (.int p.1), fm) := fun fm => fIx_of rfl true fm
  have e5 : ∀ fm : Fm, fIx (.dat (pairD true p)) (.dat (.int 1)) fm = some (.dat (.int p.2), fm) := fun fm => fIx_of rfl true fm
  have e6 := fun fm => ixS1 true S fm
  rw [shopD_t] at e6
  by_cases c1 : p.1 ≤ x <;> simp [B_fits, Q3, Qd, Qe, Qf, Qg, Qh, Qi, Qj, Qk, Ql, Qm, Qn, Qo, Qp, Qq, Qr, Qs, Qt, Qu, Qv, Qw, Qx, Q7, Qy, Qz, QA, QB, Q8, Q4, QC, QD, QE, QF, QG, Q9, QH, QI, QJ, Qa, YV, QK, QL, QM, QN, QO, QP, QQ, QR, QS, QT, QU, QV, QW, QX, Q0, QY, QZ, Z0, Z1, Z2, Z3, Z4, Z5, Z6, Z7, Z8, Z9, Za, Zb, Zd, Ze, Zf, Zg, Zh, Zi, Zj, Zk, Zl, Zm, Zn, Zo, Zp, Zq, Zr, Zs, Zt, Zu, Zv, Zw, Q5, Zx, Zy, Zz, ZA, ZB, ZC, ZD, ZE, ZF, Qb, ZG, ZH, ZI, ZJ, ZK, ZL, ZM, Q6, ZN, ZO, ZP, ZQ, ZR, ZS, ZT, ZU, ZV, ZW, ZX, ZY, ZZ, Y0, Y1, Y2, Y3, Y4, Y5, Y6, Y7, Y8, Y9, Ya, Yb, Yc, Yd, Ye, Yf, Yg, Yh, Yi, Yj, Yk, Yl, Ym, Yn, Yo, Yp, Yq, Yr, Ys, Yt, Yu, Yv, Yw, Yx, Yy, Yz, YA, YB, YC, YD, YE, YF, YG, YH, YI, YJ, YK, YL, YM, YN, YO, Q1, Q2, Qc, YQ, YR, YS, YT, YU, frz, frzAll, peek, res1, resAll, stoAll, argOf, argsOf, bors, wback, outAt, outsFrom, ownsStay, retv, wipeF, unwipe, sto, isNone, tyD, cY, cMul, cMod, cDiv, cPow, Cell.dat, b2n, frzS, frzL, fzV, atI, ixN, fMulL, excOf, frzO, -Q0, e6, e3, e4, e5, Shop.fit, e, c1]
def Shop.store (S : Shop) (st : List Int) : List Int := S.sizes.filter fun x => !decide (x ∈ st)
def SpStore (D : Dm) : Prop := ∀ (S : Shop) (st : List Int), S.sizes.length ≤ 1000 → st.length ≤ 1000 → D [.dat (dShop S), .dat (.tuple (dI st))] = some (.fre (.lst (dI (S.store st))), [.dat (dShop S), .dat (.tuple (dI st))])
theorem sp_store : SpStore B_store := by
  intro S st h1 h2
  have s2 := shaped_intsT st (by omega)
  have e6 := fun fm => ixS0 true S fm
  rw [shopD_t] at e6
  simp [B_store, Q3, Qd, Qe, Qf, Qg, Qh, Qi, Qj, Qk, Ql, Qm, Qn, Qo, Qp, Qq, Qr, Qs, Qt, Qu, Qv, Qw, Qx, Q7, Qy, Qz, QA, QB, Q8, Q4, QC, QD, QE, QF, QG, Q9, QH, QI, QJ, Qa, QK, QL, QM, QN, QO, QP, QQ, QR, QS, QT, QU, QV, QW, QX, Q0, QY, QZ, Z0, Z1, Z2, Z3, Z4, Z5, Z6, Z7, Z8, Z9, Za, Zb, Zd, Ze, Zf, Zg, Zh, Zi, Zj, Zk, Zl, Zm, Zn, Zo, Zp, Zq, Zr, Zs, Zt, Zu, Zv, Zw, Q5, Zx, Zy, Zz, ZA, ZB, ZC, ZD, ZE, ZF, Qb, ZG, ZH, ZI, ZJ, ZK, ZL, ZM, Q6, ZN, ZO, ZP, ZQ, ZR, ZS, ZT, ZU, ZV, ZW, ZX, ZY, ZZ, Y0, Y1, Y2, Y3, Y4, Y5, Y6, Y7, Y8, Y9, Ya, Yb, Yc, Yd, Ye, Yf, Yg, Yh, Yi, Yj, Yk, Yl, Ym, Yn, Yo, Yp, Yq, Yr, Ys, Yt, Yu, Yv, Yw, Yx, Yy, Yz, YA, YB, YC, YD, YE, YF, YG, YH, YI, YJ, YK, YL, YM, YN, YO, Q1, Q2, Qc, YQ, YR, YS, YT, YU, frz, frzAll, peek, res1, resAll, stoAll, argOf, argsOf, bors, wback, outAt, outsFrom, ownsStay, retv, wipeF, unwipe, sto, isNone, tyD, cY, cMul, cMod, cDiv, cPow, Cell.dat, b2n, frzS, frzL, fzV, atI, ixN, fMulL, excOf, frzO, -Q0]
  rw [lc_pure PyData.int (fun x => !decide (x ∈ st)) PyData.int S.sizes]
  case hmi => simp [Q3, Qd, Qe, Qf, Qg, Qh, Qi, Qj, Qk, Ql, Qm, Qn, Qo, Qp, Qq, Qr, Qs, Qt, Qu, Qv, Qw, Qx, Q7, Qy, Qz, QA, QB, Q8, Q4, QC, QD, QE, QF, QG, Q9, QH, QI, QJ, Qa, QK, QL, QM, QN, QO, QP, QQ, QR, QS, QT, QU, QV, QW, QX, Q0, QY, QZ, Z0, Z1, Z2, Z3, Z4, Z5, Z6, Z7, Z8, Z9, Za, Zb, Zd, Ze, Zf, Zg, Zh, Zi, Zj, Zk, Zl, Zm, Zn, Zo, Zp, Zq, Zr, Zs, Zt, Zu, Zv, Zw, Q5, Zx, Zy, Zz, ZA, ZB, ZC, ZD, ZE, ZF, Qb, ZG, ZH, ZI, ZJ, ZK, ZL, ZM, Q6, ZN, ZO, ZP, ZQ, ZR, ZS, ZT, ZU, ZV, ZW, ZX, ZY, ZZ, Y0, Y1, Y2, Y3, Y4, Y5, Y6, Y7, Y8, Y9, Ya, Yb, Yc, Yd, Ye, Yf, Yg, Yh, Yi, Yj, Yk, Yl, Ym, Yn, Yo, Yp, Yq, Yr, Ys, Yt, Yu, Yv, Yw, Yx, Yy, Yz, YA, YB, YC, YD, YE, YF, YG, YH, YI, YJ, YK, YL, YM, YN, YO, Q1, Q2, Qc, YQ, YR, YS, YT, YU, frz, frzAll, peek, res1, resAll, stoAll, argOf, argsOf, bors, wback, outAt, outsFrom, ownsStay, retv, wipeF, unwipe, sto, isNone, tyD, cY, cMul, cMod, cDiv, cPow, Cell.dat, b2n, frzS, frzL, fzV, atI, ixN, fMulL, excOf, frzO, -Q0, e6, sq]; (try first | rfl | exact ⟨rfl, rfl⟩ | exact ⟨rfl, rfl, rfl⟩ | exact ⟨rfl, rfl, rfl, rfl⟩ | exact ⟨rfl, rfl, rfl, rfl, rfl⟩)
  case hn => simp
  case hw => rfl
  case hu => rfl
  case hl => omega
  case h => exact fun x _ => ⟨_, rfl, by have c2 := in_ints x st; simp [Q3, Qd, Qe, Qf, Qg, Qh, Qi, Qj, Qk, Ql, Qm, Qn, Qo, Qp, Qq, Qr, Qs, Qt, Qu, Qv, Qw, Qx, Q7, Qy, Qz, QA, QB, Q8, Q4, QC, QD, QE, QF, QG, Q9, QH, QI, QJ, Qa, QK, QL, QM, QN, QO, QP, QQ, QR, QS, QT, QU, QV, QW, QX, Q0, QY, QZ, Z0, Z1, Z2, Z3, Z4, Z5, Z6, Z7, Z8, Z9, Za, Zb, Zd, Ze, Zf, Zg, Zh, Zi, Zj, Zk, Zl, Zm, Zn, Zo, Zp, Zq, Zr, Zs, Zt, Zu, Zv, Zw, Q5, Zx, Zy, Zz, ZA, ZB, ZC, ZD, ZE, ZF, Qb, ZG, ZH, ZI, ZJ, ZK, ZL, ZM, Q6, ZN, ZO, ZP, ZQ, ZR, ZS, ZT, ZU, ZV, ZW, ZX, ZY, ZZ, Y0, Y1, Y2, Y3, Y4, Y5, Y6, Y7, Y8, Y9, Ya, Yb, Yc, Yd, Ye, Yf, Yg, Yh, Yi, Yj, Yk, Yl, Ym, Yn, Yo, Yp, Yq, Yr, Ys, Yt, Yu, Yv, Yw, Yx, Yy, Yz, YA, YB, YC, YD, YE, YF, YG, YH, YI, YJ, YK, YL, YM, YN, YO, Q1, Q2, Qc, YQ, YR, YS, YT, YU, frz, frzAll, peek, res1, resAll, stoAll, argOf, argsOf, bors, wback, outAt, outsFrom, ownsStay, retv, wipeF, unwipe, sto, isNone, tyD, cY, cMul, cMod, cDiv, cPow, Cell.dat, b2n, frzS, frzL, fzV, atI, ixN, fMulL, excOf, frzO, s2, seqD, c2]; (try first | rfl | exact ⟨rfl, rfl⟩ | exact ⟨rfl, rfl, rfl⟩ | exact ⟨rfl, rfl, rfl, rfl⟩ | exact ⟨rfl, rfl, rfl, rfl, rfl⟩), fun _ => ⟨_, rfl, rfl⟩, rfl⟩
  simp [Q3, Qd, Qe, Qf, Qg, Qh, Qi, Qj, Qk, Ql, Qm, Qn, Qo, Qp, Qq, Qr, Qs, Qt, Qu, Qv, Qw, Qx, Q7, Qy, Qz, QA, QB, Q8, Q4, QC, QD, QE, QF, QG, Q9, QH, QI, QJ, Qa, QK, QL, QM, QN, QO, QP, QQ, QR, QS, QT, QU, QV, QW, QX, Q0, QY, QZ, Z0, Z1, Z2, Z3, Z4, Z5, Z6, Z7, Z8, Z9, Za, Zb, Zd, Ze, Zf, Zg, Zh, Zi, Zj, Zk, Zl, Zm, Zn, Zo, Zp, Zq, Zr, Zs, Zt, Zu, Zv, Zw, Q5, Zx, Zy, Zz, ZA, ZB, ZC, ZD, ZE, ZF, Qb, ZG, ZH, ZI, ZJ, ZK, ZL, ZM, Q6, ZN, ZO, ZP, ZQ, ZR, ZS, ZT, ZU, ZV, ZW, ZX, ZY, ZZ, Y0, Y1, Y2, Y3, Y4, Y5, Y6, Y7, Y8, Y9, Ya, Yb, Yc, Yd, Ye, Yf, Yg, Yh, Yi, Yj, Yk, Yl, Ym, Yn, Yo, Yp, Yq, Yr, Ys, Yt, Yu, Yv, Yw, Yx, Yy, Yz, YA, YB, YC, YD, YE, YF, YG, YH, YI, YJ, YK, YL, YM, YN, YO, Q1, Q2, Qc, YQ, YR, YS, YT, YU, frz, frzAll, peek, res1, resAll, stoAll, argOf, argsOf, bors, wback, outAt, outsFrom, ownsStay, retv, wipeF, unwipe, sto, isNone, tyD, cY, cMul, cMod, cDiv, cPow, Cell.dat, b2n, frzS, frzL, fzV, atI, ixN, fMulL, excOf, frzO, Shop.store]
def dealD (e w : Bool) (a v : Int) : PyData := sq e [.str (if w then "swap" else "take"), .int a, .int v]
def gI (st : List Int) (i : Int) : Int := (st[i.toNat]?).getD 0
theorem at_gI {st : List Int} {i : Int} (h0 : 0 ≤ i) (h : i < st.length) : atI (dI st) i = some (.int (gI st i)) := by
  have hm : i.toNat < st.length := by omega
  simp [atI, ixN, h0, h, hm, gI]
def newV (st : List Int) (w : Bool) (a v : Int) : List (Int × Int) := if w then [(a, gI st v), (v, gI st a)] else [(a, v)]
def InS (st : List Int) (i : Int) : Prop := 0 ≤ i ∧ i < st.length
end Rf

namespace Rf
open PySem PySem.Spec PyProof.Rows L2
def chk (S : Shop) (st : List Int) (w : Bool) (a v : Int) : Option Xc :=
  if ¬ S.has a then some ⟨"NoMachine", [("machine", .int a)]⟩
  else if w = true ∧ ¬ S.has v then some ⟨"NoMachine", [("machine", .int v)]⟩
  else if w = false ∧ v ∉ S.store st then some ⟨"NotInRack", [("size", .int v)]⟩
  else match (newV st w a v).find? (fun p => !S.fit p.1 p.2) with
    | some p => some ⟨"Unfit", [("machine", .int p.1)]⟩
    | none => none
theorem ne_ts : ¬ ((Str.ofString "take") = (Str.ofString "swap")) := by decide +kernel
theorem ne_st : ¬ ((Str.ofString "swap") = (Str.ofString "take")) := by decide +kernel
section
variable {S : Shop} {st : List Int}
def aft (st : List Int) (w : Bool) (a v : Int) : List Int := if w then (st.set a.toNat (gI st v)).set v.toNat (gI st a) else st.set a.toNat v
theorem chk_none {w : Bool} {a v : Int} (h : chk S st w a v = none) : S.has a ∧ (w = true → S.has v) ∧ (w = false → v ∈ S.store st) ∧ ∀ p ∈ newV st w a v, S.fit p.1 p.2 = true := by
  unfold chk at h
  split at h
  · cases h
  · rename_i h1
    split at h
    · cases h
    · rename_i h2
      split at h
      · cases h
      · rename_i h3
        split at h
        · cases h
        · rename_i h4
          refine ⟨Decidable.not_not.mp h1, fun e => Decidable.not_not.mp fun z => h2 ⟨e, z⟩, fun e => Decidable.not_not.mp fun z => h3 ⟨e, z⟩, fun p m => ?_⟩
          have := List.find?_eq_none.1 h4 p m
          simpa using this
theorem dl0 (e w : Bool) (a v : Int) (fm : Fm) : fIx (.dat (dealD e w a v)) (.dat (.int 0)) fm = some (.dat (.str (if w then "swap" else "take")), fm) := fIx_of rfl e fm
theorem dl1 (e w : Bool) (a v : Int) (fm : Fm) : fIx (.dat (dealD e w a v)) (.dat (.int 1)) fm = some (.dat (.int a), fm) := fIx_of rfl e fm
theorem dl2 (e w : Bool) (a v : Int) (fm : Fm) : fIx (.dat (dealD e w a v)) (.dat (.int 2)) fm = some (.dat (.int v), fm) := fIx_of rfl e fm
def SpAfter (D : Dm) : Prop := ∀ (w : Bool) (st : List Int) (a v : Int), InS st a → (w = true → InS st v) → D [.dat (.tuple (dI st)), .dat (dealD true w a v)] = some (.dat (.tuple (dI (aft st w a v))), [.dat (.tuple (dI st)), .dat (dealD true w a v)])
theorem sp_after : SpAfter B_after := by
  intro w st a v ha hv
  have ha1 := ha.1
  have ha2 := ha.2
  cases w with
  | true =>
    have hv1 := (hv rfl).1
    have hv2 := (hv rfl).2
    have y1 : ∀ fm : Fm, fIx (.dat (.tuple (dI st))) (.dat (.int a)) fm = some (.dat (.int (gI st a)), fm) := fun fm => fIx_of (at_gI ha1 ha2) true fm
    have y2 : ∀ fm : Fm, fIx (.dat (.tuple (dI st))) (.dat (.int v)) fm = some (.dat (.int (gI st v)), fm) := fun fm => fIx_of (at_gI hv1 hv2) true fm
    simp [B_after, Q3, Qd, Qe, Qf, Qg, Qh, Qi, Qj, Qk, Ql, Qm, Qn, Qo, Qp, Qq, Qr, Qs, Qt, Qu, Qv, Qw, Qx, Q7, Qy, Qz, QA, QB, Q8, Q4, QC, QD, QE, QF, QG, Q9, QH, QI, QJ, Qa, YV, QK, QL, QM, QN, QO, QP, QQ, QR, QS, QT, QU, QV, QW, QX, Q0, QY, QZ, Z0, Z1, Z2, Z3, Z4, Z5, Z6, Z7, Z8, Z9, Za, Zb, Zd, Ze, Zf, Zg, Zh, Zi, Zj, Zk, Zl, Zm, Zn, Zo, Zp, Zq, Zr, Zs, Zt, Zu, Zv, Zw, Q5, Zx, Zy, Zz, ZA, ZB, ZC, ZD, ZE, ZF, Qb, ZG, ZH, ZI, ZJ, ZK, ZL, ZM, Q6, ZN, ZO, ZP, ZQ, ZR, ZS, ZT, ZU, ZV, ZW, ZX, ZY, ZZ, Y0, Y1, Y2, Y3, Y4, Y5, Y6, Y7, Y8, Y9, Ya, Yb, Yc, Yd, Ye, Yf, Yg, Yh, Yi, Yj, Yk, Yl, Ym, Yn, Yo, Yp, Yq, Yr, Ys, Yt, Yu, Yv, Yw, Yx, Yy, Yz, YA, YB, YC, YD, YE, YF, YG, YH, YI, YJ, YK, YL, YM, YN, YO, Q1, Q2, Qc, YQ, YR, YS, YT, YU, frz, frzAll, peek, res1, resAll, stoAll, argOf, argsOf, bors, wback, outAt, outsFrom, ownsStay, retv, wipeF, unwipe, sto, isNone, tyD, cY, cMul, cMod, cDiv, cPow, Cell.dat, b2n, frzS, frzL, fzV, atI, ixN, fMulL, excOf, frzO, -Q0, dl0, dl1, dl2, y1, y2, ne_st, ha1, ha2, hv1, hv2, aft, List.map_set]
  | false =>
    simp [B_after, Q3, Qd, Qe, Qf, Qg, Qh, Qi, Qj, Qk, Ql, Qm, Qn, Qo, Qp, Qq, Qr, Qs, Qt, Qu, Qv, Qw, Qx, Q7, Qy, Qz, QA, QB, Q8, Q4, QC, QD, QE, QF, QG, Q9, QH, QI, QJ, Qa, YV, QK, QL, QM, QN, QO, QP, QQ, QR, QS, QT, QU, QV, QW, QX, Q0, QY, QZ, Z0, Z1, Z2, Z3, Z4, Z5, Z6, Z7, Z8, Z9, Za, Zb, Zd, Ze, Zf, Zg, Zh, Zi, Zj, Zk, Zl, Zm, Zn, Zo, Zp, Zq, Zr, Zs, Zt, Zu, Zv, Zw, Q5, Zx, Zy, Zz, ZA, ZB, ZC, ZD, ZE, ZF, Qb, ZG, ZH, ZI, ZJ, ZK, ZL, ZM, Q6, ZN, ZO, ZP, ZQ, ZR, ZS, ZT, ZU, ZV, ZW, ZX, ZY, ZZ, Y0, Y1, Y2, Y3, Y4, Y5, Y6, Y7, Y8, Y9, Ya, Yb, Yc, Yd, Ye, Yf, Yg, Yh, Yi, Yj, Yk, Yl, Ym, Yn, Yo, Yp, Yq, Yr, Ys, Yt, Yu, Yv, Yw, Yx, Yy, Yz, YA, YB, YC, YD, YE, YF, YG, YH, YI, YJ, YK, YL, YM, YN, YO, Q1, Q2, Qc, YQ, YR, YS, YT, YU, frz, frzAll, peek, res1, resAll, stoAll, argOf, argsOf, bors, wback, outAt, outsFrom, ownsStay, retv, wipeF, unwipe, sto, isNone, tyD, cY, cMul, cMod, cDiv, cPow, Cell.dat, b2n, frzS, frzL, fzV, atI, ixN, fMulL, excOf, frzO, -Q0, dl0, dl1, dl2, ne_ts, ha1, ha2, aft, List.map_set]
def SpPart (D : Dm) : Prop := ∀ (w : Bool) (a v : Int), D [.dat (dealD true w a v)] = some (.fre (.lst (dI (if w then [a, v] else [a]))), [.dat (dealD true w a v)])
theorem aft_len {w : Bool} {a v : Int} : (aft st w a v).length = st.length := by cases w <;> simp [aft]
end
end Rf

namespace Rf
open PySem PySem.Spec PyProof.Rows L2
theorem ev_eq {D : Dm} {as os : List S0} {v : SV} (h : Ev D as fun r outs => r = v ∧ outs = os) : D as = some (v, os) := by
  obtain ⟨r, outs, e, rfl, rfl⟩ := h
  exact e
theorem wp_ret {m : ME} {fm fm1 : Fm} {v : SV} {Q : Fl → Fm → Prop} (h : m fm = some (v, fm1)) (hv : ∀ x, v ≠ .thr x) (q : Q (.rt v) fm1) : Wp (mRet m) fm Q := by
  refine ⟨_, _, ?_, q⟩
  rw [Q7, h]
  cases v <;> first | rfl | exact absurd rfl (hv _)
theorem loop_acc {α X : Type} {g : MG} {m : MS} (enc : α → PyData) (out : α → List PyData) (mk : X → List PyData → Fm) : ∀ (l : List α) (acc : List PyData) (x : X),
    (∀ a ∈ l, ∀ acc' x, acc'.length + (out a).length ≤ acc.length + (l.flatMap out).length → ∃ fm1, g (enc a) (mk x acc') = some fm1 ∧ Wp m fm1 fun fl fm2 => fl = .nx ∧ ∃ x', fm2 = mk x' (acc' ++ out a)) →
    ∃ x', loopM g m (l.map enc) (mk x acc) = some (.nx, mk x' (acc ++ l.flatMap out))
  | [], acc, x, _ => ⟨x, by simp [loopM]⟩
  | a :: l, acc, x, h => by
    obtain ⟨fm1, e1, fl, fm2, e2, rfl, x', rfl⟩ := h a (by simp) acc x (by simp)
    obtain ⟨x2, e3⟩ := loop_acc (g := g) (m := m) enc out mk l (acc ++ out a) x' fun b mb acc' x hb => h b (by simp [mb]) acc' x (by simp at hb ⊢; omega)
    exact ⟨x2, by simp only [List.map_cons, loopM, e1, e2, e3, List.flatMap_cons, List.append_assoc]⟩
theorem wp_acc {α X : Type} {mi : MI} {g : MG} {m : MS} {fm : Fm} {Q : Fl → Fm → Prop} (enc : α → PyData) (out : α → List PyData) (mk : X → List PyData → Fm) (l : List α) (acc : List PyData) (x : X) (hmi : mi fm = some (l.map enc, mk x acc))
    (st : ∀ a ∈ l, ∀ acc' x, acc'.length + (out a).length ≤ acc.length + (l.flatMap out).length → ∃ fm1, g (enc a) (mk x acc') = some fm1 ∧ Wp m fm1 fun fl fm2 => fl = .nx ∧ ∃ x', fm2 = mk x' (acc' ++ out a))
    (fin : ∀ x', Q .nx (mk x' (acc ++ l.flatMap out))) : Wp (mFor mi g m) fm Q := by
  obtain ⟨x', e⟩ := loop_acc enc out mk l acc x st
  exact ⟨.nx, _, forN hmi e, fin x'⟩
abbrev Dl := Bool × Int × Int
def deD (d : Dl) : PyData := dealD true d.1 d.2.1 d.2.2
def swA (n i : Nat) : List Nat := (List.range (n - (i + 1))).map fun k => i + 1 + k
def allSw (n : Nat) : List Dl := (List.range n).flatMap fun (i : Nat) => (swA n i).map fun (j : Nat) => (true, (i : Int), (j : Int))
def allTk (n : Nat) (r : List Int) : List Dl := (List.range n).flatMap fun (i : Nat) => r.map fun (x : Int) => (false, (i : Int), x)
def okD (S : Shop) (st : List Int) (d : Dl) : Bool := (newV st d.1 d.2.1 d.2.2).all fun p => S.fit p.1 p.2
def dealsL (S : Shop) (st : List Int) : List Dl := (allSw st.length ++ allTk st.length (S.store st)).filter (okD S st)
theorem ints_0 (n : Nat) : Rf.intsFrom 0 n = (List.range n).map fun k => PyData.int (k : Nat) := by simp [Rf.intsFrom]
theorem ints_sw (n i : Nat) : Rf.intsFrom ((i : Int) + 1) (n - (i + 1)) = (swA n i).map fun k => PyData.int (k : Nat) := by
  simp [Rf.intsFrom, swA]
theorem swA_len (n i : Nat) : (swA n i).length ≤ n := by simp [swA]
theorem swA_mem {n i j : Nat} (h : j ∈ swA n i) : i < j ∧ j < n := by
  simp only [swA, List.mem_map, List.mem_range] at h
  obtain ⟨k, h1, rfl⟩ := h
  omega
theorem flat_len {α β : Type} {m : Nat} {g : α → List β} : ∀ {l : List α}, (∀ a ∈ l, (g a).length ≤ m) → (l.flatMap g).length ≤ l.length * m
  | [], _ => by simp
  | a :: l, h => by
    have h1 := h a (by simp)
    have h2 := flat_len (l := l) fun b m => h b (by simp [m])
    rw [List.flatMap_cons, List.length_append, List.length_cons, Nat.add_mul]
    omega
theorem allSw_len (n : Nat) : (allSw n).length ≤ n * n := by
  have := flat_len (m := n) (l := List.range n) (g := fun (i : Nat) => (swA n i).map fun (j : Nat) => ((true, (i : Int), (j : Int)) : Dl)) fun i _ => by rw [List.length_map]; exact swA_len n i
  simpa [allSw] using this
theorem allTk_len (n : Nat) (r : List Int) : (allTk n r).length ≤ n * r.length := by
  have := flat_len (m := r.length) (l := List.range n) (g := fun (i : Nat) => r.map fun (x : Int) => ((false, (i : Int), x) : Dl)) fun i _ => by rw [List.length_map]; exact Nat.le_refl _
  simpa [allTk] using this
theorem s5 {i : Nat} (a b : Option S0) (fm : Fm) : (a :: b :: fm)[i + 2]? = fm[i]? := rfl
end Rf

namespace Rf
open PySem PySem.Spec PyProof.Rows L2
theorem flat_if {α β : Type} (p : α → Bool) (f : α → β) : ∀ l : List α, (l.flatMap fun a => if p a = true then [f a] else []) = (l.filter p).map f
  | [] => rfl
  | a :: l => by
    rw [List.flatMap_cons, flat_if p f l, List.filter_cons]
    cases p a <;> simp
theorem filter_flat {α β : Type} (p : β → Bool) (f : α → List β) : ∀ l : List α, (l.flatMap f).filter p = l.flatMap fun a => (f a).filter p
  | [] => rfl
  | a :: l => by rw [List.flatMap_cons, List.filter_append, filter_flat p f l, List.flatMap_cons]
theorem dealsL_map (S : Shop) (st : List Int) : (dealsL S st).map deD = ((List.range st.length).flatMap fun (i : Nat) => ((swA st.length i).filter fun (j : Nat) => okD S st (true, (i : Int), (j : Int))).map fun (j : Nat) => deD (true, (i : Int), (j : Int))) ++ ((List.range st.length).flatMap fun (i : Nat) => ((S.store st).filter fun (x : Int) => okD S st (false, (i : Int), x)).map fun (x : Int) => deD (false, (i : Int), x)) := by
  simp only [dealsL, allSw, allTk, List.filter_append, List.map_append, filter_flat, List.map_flatMap, List.filter_map, List.map_map, Function.comp_def]
theorem dealsL_len (S : Shop) (st : List Int) (l1 : S.sizes.length ≤ 1000) (l2 : st.length ≤ 1000) : (dealsL S st).length ≤ 2000000 := by
  have rl : (S.store st).length ≤ 1000 := Nat.le_trans (List.length_filter_le _ _) l1
  have n1 := allSw_len st.length
  have n2 := allTk_len st.length (S.store st)
  have n3 : st.length * st.length ≤ 1000 * 1000 := Nat.mul_le_mul l2 l2
  have n4 : st.length * (S.store st).length ≤ 1000 * 1000 := Nat.mul_le_mul l2 rl
  refine Nat.le_trans (List.length_filter_le _ _) ?_
  rw [List.length_append]
  omega
def SpDeals (D : Dm) : Prop := ∀ (S : Shop) (st : List Int), S.sizes.length ≤ 1000 → st.length ≤ 1000 → st.length = S.ranges.length → D [.dat (dShop S), .dat (.tuple (dI st))] = some (.fre (.lst ((dealsL S st).map deD)), [.dat (dShop S), .dat (.tuple (dI st))])
theorem sp_deals {F R : Dm} (hF : SpFitsL F) (hR : SpStore R) : SpDeals (B_deals F R) := by
  intro S st l1 l2 hl
  have r1 := hR S st l1 l2
  have dl := dealsL_len S st l1 l2
  have dm := congrArg List.length (dealsL_map S st)
  rw [List.length_map, List.length_append] at dm
  rw [dealsL_map]
  generalize hA : (List.range st.length).flatMap (fun (i : Nat) => ((swA st.length i).filter fun (j : Nat) => okD S st (true, (i : Int), (j : Int))).map fun (j : Nat) => deD (true, (i : Int), (j : Int))) = LA at dm
  generalize hB : (List.range st.length).flatMap (fun (i : Nat) => ((S.store st).filter fun (x : Int) => okD S st (false, (i : Int), x)).map fun (x : Int) => deD (false, (i : Int), x)) = LB at dm
  have k1 : (st.length : Int) < 4611686018427387904 := by omega
  have k2 : -4611686018427387904 ≤ (st.length : Int) := by omega
  refine ev_eq (mkD_wp rfl (wp_gh (by simp [Q3, Qd, Qe, Qf, Qg, Qh, Qi, Qj, Qk, Ql, Qm, Qn, Qo, Qp, Qq, Qr, Qs, Qt, Qu, Qv, Qw, Qx, Q7, Qy, Qz, QA, QB, Q8, Q4, QC, QD, QE, QF, QG, Q9, QH, QI, QJ, Qa, QK, QL, QM, QN, QO, QP, QQ, QR, QS, QT, QU, QV, QW, QX, Q0, QY, QZ, Z0, Z1, Z2, Z3, Z4, Z5, Z6, Z7, Z8, Z9, Za, Zb, Zd, Ze, Zf, Zg, Zh, Zi, Zj, Zk, Zl, Zm, Zn, Zo, Zp, Zq, Zr, Zs, Zt, Zu, Zv, Zw, Q5, Zx, Zy, Zz, ZA, ZB, ZC, ZD, ZE, ZF, Qb, ZG, ZH, ZI, ZJ, ZK, ZL, ZM, Q6, ZN, ZO, ZP, ZQ, ZR, ZS, ZT, ZU, ZV, ZW, ZX, ZY, ZZ, Y0, Y1, Y2, Y3, Y4, Y5, Y6, Y7, Y8, Y9, Ya, Yb, Yc, Yd, Ye, Yf, Yg, Yh, Yi, Yj, Yk, Yl, Ym, Yn, Yo, Yp, Yq, Yr, Ys, Yt, Yu, Yv, Yw, Yx, Yy, Yz, YA, YB, YC, YD, YE, YF, YG, YH, YI, YJ, YK, YL, YM, YN, YO, Q1, Q2, Qc, YQ, YR, YS, YT, YU, frz, frzAll, peek, res1, resAll, stoAll, argOf, argsOf, bors, wback, outAt, outsFrom, ownsStay, retv, wipeF, unwipe, sto, isNone, tyD, cY, cMul, cMod, cDiv, cPow, Cell.dat, b2n, frzS, frzL, fzV, atI, ixN, fMulL, excOf, frzO]; rfl) ?_))
  simp only [frzL, frzS, wipeF, List.getElem?_cons_zero, List.getElem?_cons_succ, List.set_cons_zero, List.set_cons_succ, Cell.dat]
  refine wp_seq (wp_acc (X := Option S0 × Option S0) (fun k : Nat => PyData.int (k : Nat)) (fun (i : Nat) => ((swA st.length i).filter fun (j : Nat) => okD S st (true, (i : Int), (j : Int))).map fun (j : Nat) => deD (true, (i : Int), (j : Int))) (fun x acc => [some (.dat (dShop S)), some (.dat (.tuple (dI st))), x.1, some (.own (.lst acc)), some (.dat (.int (st.length : Nat))), x.2, none]) (List.range st.length) [] (none, none) (by simp [Q3, Qd, Qe, Qf, Qg, Qh, Qi, Qj, Qk, Ql, Qm, Qn, Qo, Qp, Qq, Qr, Qs, Qt, Qu, Qv, Qw, Qx, Q7, Qy, Qz, QA, QB, Q8, Q4, QC, QD, QE, QF, QG, Q9, QH, QI, QJ, Qa, QK, QL, QM, QN, QO, QP, QQ, QR, QS, QT, QU, QV, QW, QX, Q0, QY, QZ, Z0, Z1, Z2, Z3, Z4, Z5, Z6, Z7, Z8, Z9, Za, Zb, Zd, Ze, Zf, Zg, Zh, Zi, Zj, Zk, Zl, Zm, Zn, Zo, Zp, Zq, Zr, Zs, Zt, Zu, Zv, Zw, Q5, Zx, Zy, Zz, ZA, ZB, ZC, ZD, ZE, ZF, Qb, ZG, ZH, ZI, ZJ, ZK, ZL, ZM, Q6, ZN, ZO, ZP, ZQ, ZR, ZS, ZT, ZU, ZV, ZW, ZX, ZY, ZZ, Y0, Y1, Y2, Y3, Y4, Y5, Y6, Y7, Y8, Y9, Ya, Yb, Yc, Yd, Ye, Yf, Yg, Yh, Yi, Yj, Yk, Yl, Ym, Yn, Yo, Yp, Yq, Yr, Ys, Yt, Yu, Yv, Yw, Yx, Yy, Yz, YA, YB, YC, YD, YE, YF, YG, YH, YI, YJ, YK, YL, YM, YN, YO, Q1, Q2, Qc, YQ, YR, YS, YT, YU, frz, frzAll, peek, res1, resAll, stoAll, argOf, argsOf, bors, wback, outAt, outsFrom, ownsStay, retv, wipeF, unwipe, sto, isNone, tyD, cY, cMul, cMod, cDiv, cPow, Cell.dat, b2n, frzS, frzL, fzV, atI, ixN, fMulL, excOf, frzO, ints_0, k1, k2]; (try first | rfl | exact ⟨rfl, rfl⟩ | exact ⟨rfl, rfl, rfl⟩ | exact ⟨rfl, rfl, rfl, rfl⟩ | exact ⟨rfl, rfl, rfl, rfl, rfl⟩)) ?_ ?_)
  · intro i hi acc x hb
    have hi' := List.mem_range.1 hi
    have e0 : ((st.length : Int) - ((i : Int) + 1)).toNat = st.length - (i + 1) := by omega
    have e2 : (i : Int) + 1 < 4611686018427387904 := by omega
    have e3 : -4611686018427387904 ≤ (i : Int) + 1 := by omega
    rw [hA] at hb
    have hb2 : acc.length + (((swA st.length i).filter fun (j : Nat) => okD S st (true, (i : Int), (j : Int))).map fun (j : Nat) => deD (true, (i : Int), (j : Int))).length ≤ 2000000 := by simp at hb ⊢; omega
    refine ⟨_, rfl, ?_⟩
    have fi := flat_if (fun (j : Nat) => okD S st (true, (i : Int), (j : Int))) (fun (j : Nat) => deD (true, (i : Int), (j : Int))) (swA st.length i)
    rw [← fi] at hb2 ⊢
    refine wp_acc (X := Option S0) (fun k : Nat => PyData.int (k : Nat)) (fun (j : Nat) => if okD S st (true, (i : Int), (j : Int)) = true then [deD (true, (i : Int), (j : Int))] else []) (fun x5 acc => [some (.dat (dShop S)), some (.dat (.tuple (dI st))), some (.dat (.int (i : Nat))), some (.own (.lst acc)), some (.dat (.int (st.length : Nat))), x5, none]) (swA st.length i) acc x.2 (by simp [Q3, Qd, Qe, Qf, Qg, Qh, Qi, Qj, Qk, Ql, Qm, Qn, Qo, Qp, Qq, Qr, Qs, Qt, Qu, Qv, Qw, Qx, Q7, Qy, Qz, QA, QB, Q8, Q4, QC, QD, QE, QF, QG, Q9, QH, QI, QJ, Qa, QK, QL, QM, QN, QO, QP, QQ, QR, QS, QT, QU, QV, QW, QX, Q0, QY, QZ, Z0, Z1, Z2, Z3, Z4, Z5, Z6, Z7, Z8, Z9, Za, Zb, Zd, Ze, Zf, Zg, Zh, Zi, Zj, Zk, Zl, Zm, Zn, Zo, Zp, Zq, Zr, Zs, Zt, Zu, Zv, Zw, Q5, Zx, Zy, Zz, ZA, ZB, ZC, ZD, ZE, ZF, Qb, ZG, ZH, ZI, ZJ, ZK, ZL, ZM, Q6, ZN, ZO, ZP, ZQ, ZR, ZS, ZT, ZU, ZV, ZW, ZX, ZY, ZZ, Y0, Y1, Y2, Y3, Y4, Y5, Y6, Y7, Y8, Y9, Ya, Yb, Yc, Yd, Ye, Yf, Yg, Yh, Yi, Yj, Yk, Yl, Ym, Yn, Yo, Yp, Yq, Yr, Ys, Yt, Yu, Yv, Yw, Yx, Yy, Yz, YA, YB, YC, YD, YE, YF, YG, YH, YI, YJ, YK, YL, YM, YN, YO, Q1, Q2, Qc, YQ, YR, YS, YT, YU, frz, frzAll, peek, res1, resAll, stoAll, argOf, argsOf, bors, wback, outAt, outsFrom, ownsStay, retv, wipeF, unwipe, sto, isNone, tyD, cY, cMul, cMod, cDiv, cPow, Cell.dat, b2n, frzS, frzL, fzV, atI, ixN, fMulL, excOf, frzO, ints_sw, e0, k1, k2, e2, e3]; (try first | rfl | exact ⟨rfl, rfl⟩ | exact ⟨rfl, rfl, rfl⟩ | exact ⟨rfl, rfl, rfl, rfl⟩ | exact ⟨rfl, rfl, rfl, rfl, rfl⟩)) ?_ ?_
    · intro j hj acc' x5 hb'
      obtain ⟨j1, j2⟩ := swA_mem hj
      have f1 := hF S (i : Int) (gI st (j : Int)) ⟨by omega, by omega⟩
      have f2 := hF S (j : Int) (gI st (i : Int)) ⟨by omega, by omega⟩
      have y1 : ∀ fm : Fm, fIx (.dat (.tuple (dI st))) (.dat (.int (i : Nat))) fm = some (.dat (.int (gI st (i : Int))), fm) := fun fm => fIx_of (at_gI (by omega) (by omega)) true fm
      have y2 : ∀ fm : Fm, fIx (.dat (.tuple (dI st))) (.dat (.int (j : Nat))) fm = some (.dat (.int (gI st (j : Int))), fm) := fun fm => fIx_of (at_gI (by omega) (by omega)) true fm
      have ok1 : okD S st (true, (i : Int), (j : Int)) = (S.fit (i : Int) (gI st (j : Int)) && S.fit (j : Int) (gI st (i : Int))) := by simp [okD, newV]
      refine ⟨_, rfl, ?_⟩
      rw [ok1] at hb' ⊢
      cases g1 : S.fit (i : Int) (gI st (j : Int))
      · rw [g1] at f1
        exact wp_is (by simp [Q3, Qd, Qe, Qf, Qg, Qh, Qi, Qj, Qk, Ql, Qm, Qn, Qo, Qp, Qq, Qr, Qs, Qt, Qu, Qv, Qw, Qx, Q7, Qy, Qz, QA, QB, Q8, Q4, QC, QD, QE, QF, QG, Q9, QH, QI, QJ, Qa, YV, QK, QL, QM, QN, QO, QP, QQ, QR, QS, QT, QU, QV, QW, QX, Q0, QY, QZ, Z0, Z1, Z2, Z3, Z4, Z5, Z6, Z7, Z8, Z9, Za, Zb, Zd, Ze, Zf, Zg, Zh, Zi, Zj, Zk, Zl, Zm, Zn, Zo, Zp, Zq, Zr, Zs, Zt, Zu, Zv, Zw, Q5, Zx, Zy, Zz, ZA, ZB, ZC, ZD, ZE, ZF, Qb, ZG, ZH, ZI, ZJ, ZK, ZL, ZM, Q6, ZN, ZO, ZP, ZQ, ZR, ZS, ZT, ZU, ZV, ZW, ZX, ZY, ZZ, Y0, Y1, Y2, Y3, Y4, Y5, Y6, Y7, Y8, Y9, Ya, Yb, Yc, Yd, Ye, Yf, Yg, Yh, Yi, Yj, Yk, Yl, Ym, Yn, Yo, Yp, Yq, Yr, Ys, Yt, Yu, Yv, Yw, Yx, Yy, Yz, YA, YB, YC, YD, YE, YF, YG, YH, YI, YJ, YK, YL, YM, YN, YO, Q1, Q2, Qc, YQ, YR, YS, YT, YU, frz, frzAll, peek, res1, resAll, stoAll, argOf, argsOf, bors, wback, outAt, outsFrom, ownsStay, retv, wipeF, unwipe, sto, isNone, tyD, cY, cMul, cMod, cDiv, cPow, Cell.dat, b2n, frzS, frzL, fzV, atI, ixN, fMulL, excOf, frzO, -Q0, y1, y2, f1, wback_d3]; (try first | rfl | exact ⟨rfl, rfl⟩ | exact ⟨rfl, rfl, rfl⟩ | exact ⟨rfl, rfl, rfl, rfl⟩ | exact ⟨rfl, rfl, rfl, rfl, rfl⟩)) ⟨rfl, _, by simp; (try first | rfl | exact ⟨rfl, rfl⟩ | exact ⟨rfl, rfl, rfl⟩ | exact ⟨rfl, rfl, rfl, rfl⟩ | exact ⟨rfl, rfl, rfl, rfl, rfl⟩)⟩
      · cases g2 : S.fit (j : Int) (gI st (i : Int))
        · rw [g1] at f1
          rw [g2] at f2
          exact wp_is (by simp [Q3, Qd, Qe, Qf, Qg, Qh, Qi, Qj, Qk, Ql, Qm, Qn, Qo, Qp, Qq, Qr, Qs, Qt, Qu, Qv, Qw, Qx, Q7, Qy, Qz, QA, QB, Q8, Q4, QC, QD, QE, QF, QG, Q9, QH, QI, QJ, Qa, YV, QK, QL, QM, QN, QO, QP, QQ, QR, QS, QT, QU, QV, QW, QX, Q0, QY, QZ, Z0, Z1, Z2, Z3, Z4, Z5, Z6, Z7, Z8, Z9, Za, Zb, Zd, Ze, Zf, Zg, Zh, Zi, Zj, Zk, Zl, Zm, Zn, Zo, Zp, Zq, Zr, Zs, Zt, Zu, Zv, Zw, Q5, Zx, Zy, Zz, ZA, ZB, ZC, ZD, ZE, ZF, Qb, ZG, ZH, ZI, ZJ, ZK, ZL, ZM, Q6, ZN, ZO, ZP, ZQ, ZR, ZS, ZT, ZU, ZV, ZW, ZX, ZY, ZZ, Y0, Y1, Y2, Y3, Y4, Y5, Y6, Y7, Y8, Y9, Ya, Yb, Yc, Yd, Ye, Yf, Yg, Yh, Yi, Yj, Yk, Yl, Ym, Yn, Yo, Yp, Yq, Yr, Ys, Yt, Yu, Yv, Yw, Yx, Yy, Yz, YA, YB, YC, YD, YE, YF, YG, YH, YI, YJ, YK, YL, YM, YN, YO, Q1, Q2, Qc, YQ, YR, YS, YT, YU, frz, frzAll, peek, res1, resAll, stoAll, argOf, argsOf, bors, wback, outAt, outsFrom, ownsStay, retv, wipeF, unwipe, sto, isNone, tyD, cY, cMul, cMod, cDiv, cPow, Cell.dat, b2n, frzS, frzL, fzV, atI, ixN, fMulL, excOf, frzO, -Q0, y1, y2, f1, f2, wback_d3]; (try first | rfl | exact ⟨rfl, rfl⟩ | exact ⟨rfl, rfl, rfl⟩ | exact ⟨rfl, rfl, rfl, rfl⟩ | exact ⟨rfl, rfl, rfl, rfl, rfl⟩)) ⟨rfl, _, by simp; (try first | rfl | exact ⟨rfl, rfl⟩ | exact ⟨rfl, rfl, rfl⟩ | exact ⟨rfl, rfl, rfl, rfl⟩ | exact ⟨rfl, rfl, rfl, rfl, rfl⟩)⟩
        · rw [g1] at f1
          rw [g2] at f2
          rw [g1, g2] at hb'
          have h8 : acc'.length < 16777216 := by have := Nat.le_trans (Nat.le_trans (Nat.le_add_right _ _) hb') hb2; omega
          exact wp_is (by simp [Q3, Qd, Qe, Qf, Qg, Qh, Qi, Qj, Qk, Ql, Qm, Qn, Qo, Qp, Qq, Qr, Qs, Qt, Qu, Qv, Qw, Qx, Q7, Qy, Qz, QA, QB, Q8, Q4, QC, QD, QE, QF, QG, Q9, QH, QI, QJ, Qa, YV, QK, QL, QM, QN, QO, QP, QQ, QR, QS, QT, QU, QV, QW, QX, Q0, QY, QZ, Z0, Z1, Z2, Z3, Z4, Z5, Z6, Z7, Z8, Z9, Za, Zb, Zd, Ze, Zf, Zg, Zh, Zi, Zj, Zk, Zl, Zm, Zn, Zo, Zp, Zq, Zr, Zs, Zt, Zu, Zv, Zw, Q5, Zx, Zy, Zz, ZA, ZB, ZC, ZD, ZE, ZF, Qb, ZG, ZH, ZI, ZJ, ZK, ZL, ZM, Q6, ZN, ZO, ZP, ZQ, ZR, ZS, ZT, ZU, ZV, ZW, ZX, ZY, ZZ, Y0, Y1, Y2, Y3, Y4, Y5, Y6, Y7, Y8, Y9, Ya, Yb, Yc, Yd, Ye, Yf, Yg, Yh, Yi, Yj, Yk, Yl, Ym, Yn, Yo, Yp, Yq, Yr, Ys, Yt, Yu, Yv, Yw, Yx, Yy, Yz, YA, YB, YC, YD, YE, YF, YG, YH, YI, YJ, YK, YL, YM, YN, YO, Q1, Q2, Qc, YQ, YR, YS, YT, YU, frz, frzAll, peek, res1, resAll, stoAll, argOf, argsOf, bors, wback, outAt, outsFrom, ownsStay, retv, wipeF, unwipe, sto, isNone, tyD, cY, cMul, cMod, cDiv, cPow, Cell.dat, b2n, frzS, frzL, fzV, atI, ixN, fMulL, excOf, frzO, -Q0, y1, y2, f1, f2, wback_d3, h8]; (try first | rfl | exact ⟨rfl, rfl⟩ | exact ⟨rfl, rfl, rfl⟩ | exact ⟨rfl, rfl, rfl, rfl⟩ | exact ⟨rfl, rfl, rfl, rfl, rfl⟩)) ⟨rfl, _, by simp [deD, dealD, sq]; (try first | rfl | exact ⟨rfl, rfl⟩ | exact ⟨rfl, rfl, rfl⟩ | exact ⟨rfl, rfl, rfl, rfl⟩ | exact ⟨rfl, rfl, rfl, rfl, rfl⟩)⟩
    · exact fun x' => ⟨rfl, (_, x'), rfl⟩
  · intro x
    rw [List.nil_append, hA]
    refine ⟨rfl, wp_seq (wp_acc (X := Option S0 × Option S0) (fun k : Nat => PyData.int (k : Nat)) (fun (i : Nat) => ((S.store st).filter fun (x : Int) => okD S st (false, (i : Int), x)).map fun (x : Int) => deD (false, (i : Int), x)) (fun x acc => [some (.dat (dShop S)), some (.dat (.tuple (dI st))), x.1, some (.own (.lst acc)), some (.dat (.int (st.length : Nat))), x.2, none]) (List.range st.length) LA x (by simp [Q3, Qd, Qe, Qf, Qg, Qh, Qi, Qj, Qk, Ql, Qm, Qn, Qo, Qp, Qq, Qr, Qs, Qt, Qu, Qv, Qw, Qx, Q7, Qy, Qz, QA, QB, Q8, Q4, QC, QD, QE, QF, QG, Q9, QH, QI, QJ, Qa, QK, QL, QM, QN, QO, QP, QQ, QR, QS, QT, QU, QV, QW, QX, Q0, QY, QZ, Z0, Z1, Z2, Z3, Z4, Z5, Z6, Z7, Z8, Z9, Za, Zb, Zd, Ze, Zf, Zg, Zh, Zi, Zj, Zk, Zl, Zm, Zn, Zo, Zp, Zq, Zr, Zs, Zt, Zu, Zv, Zw, Q5, Zx, Zy, Zz, ZA, ZB, ZC, ZD, ZE, ZF, Qb, ZG, ZH, ZI, ZJ, ZK, ZL, ZM, Q6, ZN, ZO, ZP, ZQ, ZR, ZS, ZT, ZU, ZV, ZW, ZX, ZY, ZZ, Y0, Y1, Y2, Y3, Y4, Y5, Y6, Y7, Y8, Y9, Ya, Yb, Yc, Yd, Ye, Yf, Yg, Yh, Yi, Yj, Yk, Yl, Ym, Yn, Yo, Yp, Yq, Yr, Ys, Yt, Yu, Yv, Yw, Yx, Yy, Yz, YA, YB, YC, YD, YE, YF, YG, YH, YI, YJ, YK, YL, YM, YN, YO, Q1, Q2, Qc, YQ, YR, YS, YT, YU, frz, frzAll, peek, res1, resAll, stoAll, argOf, argsOf, bors, wback, outAt, outsFrom, ownsStay, retv, wipeF, unwipe, sto, isNone, tyD, cY, cMul, cMod, cDiv, cPow, Cell.dat, b2n, frzS, frzL, fzV, atI, ixN, fMulL, excOf, frzO, ints_0, k1, k2]; (try first | rfl | exact ⟨rfl, rfl⟩ | exact ⟨rfl, rfl, rfl⟩ | exact ⟨rfl, rfl, rfl, rfl⟩ | exact ⟨rfl, rfl, rfl, rfl, rfl⟩)) ?_ ?_)⟩
    · intro i hi acc x hb
      have hi' := List.mem_range.1 hi
      rw [hB] at hb
      have lc : ∀ (x3 x4 x5 : Option S0), mLc 7 (iSeq (mCall R (mFz (mCons (mVar 0) (mCons (mVar 1) mNil))))) (gSet 6) (mB (mCall F (mFz (mCons (mVar 0) (mCons (mVar 2) (mCons (mVar 6) mNil)))))) (mTup (mCons (mLit (.str "take")) (mCons (mVar 2) (mCons (mVar 6) mNil)))) [6] [some (.dat (dShop S)), some (.dat (.tuple (dI st))), some (.dat (.int (i : Nat))), x3, x4, x5, none] = some (.fre (.lst (((S.store st).filter fun (x : Int) => okD S st (false, (i : Int), x)).map fun (x : Int) => deD (false, (i : Int), x))), [some (.dat (dShop S)), some (.dat (.tuple (dI st))), some (.dat (.int (i : Nat))), x3, x4, x5, none]) := fun x3 x4 x5 => by
        rw [lc_pure PyData.int (fun x => okD S st (false, (i : Int), x)) (fun x => deD (false, (i : Int), x)) (S.store st)]
        case hmi => simp [Q3, Qd, Qe, Qf, Qg, Qh, Qi, Qj, Qk, Ql, Qm, Qn, Qo, Qp, Qq, Qr, Qs, Qt, Qu, Qv, Qw, Qx, Q7, Qy, Qz, QA, QB, Q8, Q4, QC, QD, QE, QF, QG, Q9, QH, QI, QJ, Qa, QK, QL, QM, QN, QO, QP, QQ, QR, QS, QT, QU, QV, QW, QX, Q0, QY, QZ, Z0, Z1, Z2, Z3, Z4, Z5, Z6, Z7, Z8, Z9, Za, Zb, Zd, Ze, Zf, Zg, Zh, Zi, Zj, Zk, Zl, Zm, Zn, Zo, Zp, Zq, Zr, Zs, Zt, Zu, Zv, Zw, Q5, Zx, Zy, Zz, ZA, ZB, ZC, ZD, ZE, ZF, Qb, ZG, ZH, ZI, ZJ, ZK, ZL, ZM, Q6, ZN, ZO, ZP, ZQ, ZR, ZS, ZT, ZU, ZV, ZW, ZX, ZY, ZZ, Y0, Y1, Y2, Y3, Y4, Y5, Y6, Y7, Y8, Y9, Ya, Yb, Yc, Yd, Ye, Yf, Yg, Yh, Yi, Yj, Yk, Yl, Ym, Yn, Yo, Yp, Yq, Yr, Ys, Yt, Yu, Yv, Yw, Yx, Yy, Yz, YA, YB, YC, YD, YE, YF, YG, YH, YI, YJ, YK, YL, YM, YN, YO, Q1, Q2, Qc, YQ, YR, YS, YT, YU, frz, frzAll, peek, res1, resAll, stoAll, argOf, argsOf, bors, wback, outAt, outsFrom, ownsStay, retv, wipeF, unwipe, sto, isNone, tyD, cY, cMul, cMod, cDiv, cPow, Cell.dat, b2n, frzS, frzL, fzV, atI, ixN, fMulL, excOf, frzO, r1, wback_d2]; (try first | rfl | exact ⟨rfl, rfl⟩ | exact ⟨rfl, rfl, rfl⟩ | exact ⟨rfl, rfl, rfl, rfl⟩ | exact ⟨rfl, rfl, rfl, rfl, rfl⟩)
        case hn => simp
        case hw => rfl
        case hu => rfl
        case hl => exact Nat.le_trans (List.length_filter_le _ _) (by omega)
        case h => exact fun x _ => ⟨_, rfl, by
          have f1 := hF S (i : Int) x ⟨by omega, by omega⟩
          have ok1 : okD S st (false, (i : Int), x) = S.fit (i : Int) x := by simp [okD, newV]
          rw [← ok1] at f1
          simp [Q3, Qd, Qe, Qf, Qg, Qh, Qi, Qj, Qk, Ql, Qm, Qn, Qo, Qp, Qq, Qr, Qs, Qt, Qu, Qv, Qw, Qx, Q7, Qy, Qz, QA, QB, Q8, Q4, QC, QD, QE, QF, QG, Q9, QH, QI, QJ, Qa, QK, QL, QM, QN, QO, QP, QQ, QR, QS, QT, QU, QV, QW, QX, Q0, QY, QZ, Z0, Z1, Z2, Z3, Z4, Z5, Z6, Z7, Z8, Z9, Za, Zb, Zd, Ze, Zf, Zg, Zh, Zi, Zj, Zk, Zl, Zm, Zn, Zo, Zp, Zq, Zr, Zs, Zt, Zu, Zv, Zw, Q5, Zx, Zy, Zz, ZA, ZB, ZC, ZD, ZE, ZF, Qb, ZG, ZH, ZI, ZJ, ZK, ZL, ZM, Q6, ZN, ZO, ZP, ZQ, ZR, ZS, ZT, ZU, ZV, ZW, ZX, ZY, ZZ, Y0, Y1, Y2, Y3, Y4, Y5, Y6, Y7, Y8, Y9, Ya, Yb, Yc, Yd, Ye, Yf, Yg, Yh, Yi, Yj, Yk, Yl, Ym, Yn, Yo, Yp, Yq, Yr, Ys, Yt, Yu, Yv, Yw, Yx, Yy, Yz, YA, YB, YC, YD, YE, YF, YG, YH, YI, YJ, YK, YL, YM, YN, YO, Q1, Q2, Qc, YQ, YR, YS, YT, YU, frz, frzAll, peek, res1, resAll, stoAll, argOf, argsOf, bors, wback, outAt, outsFrom, ownsStay, retv, wipeF, unwipe, sto, isNone, tyD, cY, cMul, cMod, cDiv, cPow, Cell.dat, b2n, frzS, frzL, fzV, atI, ixN, fMulL, excOf, frzO, f1, wback_d3]; (try first | rfl | exact ⟨rfl, rfl⟩ | exact ⟨rfl, rfl, rfl⟩ | exact ⟨rfl, rfl, rfl, rfl⟩ | exact ⟨rfl, rfl, rfl, rfl, rfl⟩), fun _ => ⟨_, by simp [Q3, Qd, Qe, Qf, Qg, Qh, Qi, Qj, Qk, Ql, Qm, Qn, Qo, Qp, Qq, Qr, Qs, Qt, Qu, Qv, Qw, Qx, Q7, Qy, Qz, QA, QB, Q8, Q4, QC, QD, QE, QF, QG, Q9, QH, QI, QJ, Qa, QK, QL, QM, QN, QO, QP, QQ, QR, QS, QT, QU, QV, QW, QX, Q0, QY, QZ, Z0, Z1, Z2, Z3, Z4, Z5, Z6, Z7, Z8, Z9, Za, Zb, Zd, Ze, Zf, Zg, Zh, Zi, Zj, Zk, Zl, Zm, Zn, Zo, Zp, Zq, Zr, Zs, Zt, Zu, Zv, Zw, Q5, Zx, Zy, Zz, ZA, ZB, ZC, ZD, ZE, ZF, Qb, ZG, ZH, ZI, ZJ, ZK, ZL, ZM, Q6, ZN, ZO, ZP, ZQ, ZR, ZS, ZT, ZU, ZV, ZW, ZX, ZY, ZZ, Y0, Y1, Y2, Y3, Y4, Y5, Y6, Y7, Y8, Y9, Ya, Yb, Yc, Yd, Ye, Yf, Yg, Yh, Yi, Yj, Yk, Yl, Ym, Yn, Yo, Yp, Yq, Yr, Ys, Yt, Yu, Yv, Yw, Yx, Yy, Yz, YA, YB, YC, YD, YE, YF, YG, YH, YI, YJ, YK, YL, YM, YN, YO, Q1, Q2, Qc, YQ, YR, YS, YT, YU, frz, frzAll, peek, res1, resAll, stoAll, argOf, argsOf, bors, wback, outAt, outsFrom, ownsStay, retv, wipeF, unwipe, sto, isNone, tyD, cY, cMul, cMod, cDiv, cPow, Cell.dat, b2n, frzS, frzL, fzV, atI, ixN, fMulL, excOf, frzO]; (try first | rfl | exact ⟨rfl, rfl⟩ | exact ⟨rfl, rfl, rfl⟩ | exact ⟨rfl, rfl, rfl, rfl⟩ | exact ⟨rfl, rfl, rfl, rfl, rfl⟩), rfl⟩, rfl⟩
      refine ⟨_, rfl, ?_⟩
      have h8 : acc.length + (((S.store st).filter fun (x : Int) => okD S st (false, (i : Int), x)).map fun (x : Int) => deD (false, (i : Int), x)).length ≤ 16777216 := by simp at hb ⊢; omega
      generalize (((S.store st).filter fun (x : Int) => okD S st (false, (i : Int), x)).map fun (x : Int) => deD (false, (i : Int), x)) = L at lc h8 ⊢
      exact wp_is (by simp [Q3, Qd, Qe, Qf, Qg, Qh, Qi, Qj, Qk, Ql, Qm, Qn, Qo, Qp, Qq, Qr, Qs, Qt, Qu, Qv, Qw, Qx, Q7, Qy, Qz, QA, QB, Q8, Q4, QC, QD, QE, QF, QG, Q9, QH, QI, QJ, Qa, QK, QL, QM, QN, QO, QP, QQ, QR, QS, QT, QU, QV, QW, QX, Q0, QY, QZ, Z0, Z1, Z2, Z3, Z4, Z5, Z6, Z7, Z8, Z9, Za, Zb, Zd, Ze, Zf, Zg, Zh, Zi, Zj, Zk, Zl, Zm, Zn, Zo, Zp, Zq, Zr, Zs, Zt, Zu, Zv, Zw, Q5, Zx, Zy, Zz, ZA, ZB, ZC, ZD, ZE, ZF, Qb, ZG, ZH, ZI, ZJ, ZK, ZL, ZM, Q6, ZN, ZO, ZP, ZQ, ZR, ZS, ZT, ZU, ZV, ZW, ZX, ZY, ZZ, Y0, Y1, Y2, Y3, Y4, Y5, Y6, Y7, Y8, Y9, Ya, Yb, Yc, Yd, Ye, Yf, Yg, Yh, Yi, Yj, Yk, Yl, Ym, Yn, Yo, Yp, Yq, Yr, Ys, Yt, Yu, Yv, Yw, Yx, Yy, Yz, YA, YB, YC, YD, YE, YF, YG, YH, YI, YJ, YK, YL, YM, YN, YO, Q1, Q2, Qc, YQ, YR, YS, YT, YU, frz, frzAll, peek, res1, resAll, stoAll, argOf, argsOf, bors, wback, outAt, outsFrom, ownsStay, retv, wipeF, unwipe, sto, isNone, tyD, cY, cMul, cMod, cDiv, cPow, Cell.dat, b2n, frzS, frzL, fzV, atI, ixN, fMulL, excOf, frzO, lc, h8]; (try first | rfl | exact ⟨rfl, rfl⟩ | exact ⟨rfl, rfl, rfl⟩ | exact ⟨rfl, rfl, rfl, rfl⟩ | exact ⟨rfl, rfl, rfl, rfl, rfl⟩)) ⟨rfl, (_, _), rfl⟩
    · intro x
      rw [hB]
      exact ⟨rfl, wp_is (by simp [Q3, Qd, Qe, Qf, Qg, Qh, Qi, Qj, Qk, Ql, Qm, Qn, Qo, Qp, Qq, Qr, Qs, Qt, Qu, Qv, Qw, Qx, Q7, Qy, Qz, QA, QB, Q8, Q4, QC, QD, QE, QF, QG, Q9, QH, QI, QJ, Qa, QK, QL, QM, QN, QO, QP, QQ, QR, QS, QT, QU, QV, QW, QX, Q0, QY, QZ, Z0, Z1, Z2, Z3, Z4, Z5, Z6, Z7, Z8, Z9, Za, Zb, Zd, Ze, Zf, Zg, Zh, Zi, Zj, Zk, Zl, Zm, Zn, Zo, Zp, Zq, Zr, Zs, Zt, Zu, Zv, Zw, Q5, Zx, Zy, Zz, ZA, ZB, ZC, ZD, ZE, ZF, Qb, ZG, ZH, ZI, ZJ, ZK, ZL, ZM, Q6, ZN, ZO, ZP, ZQ, ZR, ZS, ZT, ZU, ZV, ZW, ZX, ZY, ZZ, Y0, Y1, Y2, Y3, Y4, Y5, Y6, Y7, Y8, Y9, Ya, Yb, Yc, Yd, Ye, Yf, Yg, Yh, Yi, Yj, Yk, Yl, Ym, Yn, Yo, Yp, Yq, Yr, Ys, Yt, Yu, Yv, Yw, Yx, Yy, Yz, YA, YB, YC, YD, YE, YF, YG, YH, YI, YJ, YK, YL, YM, YN, YO, Q1, Q2, Qc, YQ, YR, YS, YT, YU, frz, frzAll, peek, res1, resAll, stoAll, argOf, argsOf, bors, wback, outAt, outsFrom, ownsStay, retv, wipeF, unwipe, sto, isNone, tyD, cY, cMul, cMod, cDiv, cPow, Cell.dat, b2n, frzS, frzL, fzV, atI, ixN, fMulL, excOf, frzO]; (try first | rfl | exact ⟨rfl, rfl⟩ | exact ⟨rfl, rfl, rfl⟩ | exact ⟨rfl, rfl, rfl, rfl⟩ | exact ⟨rfl, rfl, rfl, rfl, rfl⟩)) ⟨_, _, _, _, rfl, by simp [Q3, Qd, Qe, Qf, Qg, Qh, Qi, Qj, Qk, Ql, Qm, Qn, Qo, Qp, Qq, Qr, Qs, Qt, Qu, Qv, Qw, Qx, Q7, Qy, Qz, QA, QB, Q8, Q4, QC, QD, QE, QF, QG, Q9, QH, QI, QJ, Qa, QK, QL, QM, QN, QO, QP, QQ, QR, QS, QT, QU, QV, QW, QX, Q0, QY, QZ, Z0, Z1, Z2, Z3, Z4, Z5, Z6, Z7, Z8, Z9, Za, Zb, Zd, Ze, Zf, Zg, Zh, Zi, Zj, Zk, Zl, Zm, Zn, Zo, Zp, Zq, Zr, Zs, Zt, Zu, Zv, Zw, Q5, Zx, Zy, Zz, ZA, ZB, ZC, ZD, ZE, ZF, Qb, ZG, ZH, ZI, ZJ, ZK, ZL, ZM, Q6, ZN, ZO, ZP, ZQ, ZR, ZS, ZT, ZU, ZV, ZW, ZX, ZY, ZZ, Y0, Y1, Y2, Y3, Y4, Y5, Y6, Y7, Y8, Y9, Ya, Yb, Yc, Yd, Ye, Yf, Yg, Yh, Yi, Yj, Yk, Yl, Ym, Yn, Yo, Yp, Yq, Yr, Ys, Yt, Yu, Yv, Yw, Yx, Yy, Yz, YA, YB, YC, YD, YE, YF, YG, YH, YI, YJ, YK, YL, YM, YN, YO, Q1, Q2, Qc, YQ, YR, YS, YT, YU, frz, frzAll, peek, res1, resAll, stoAll, argOf, argsOf, bors, wback, outAt, outsFrom, ownsStay, retv, wipeF, unwipe, sto, isNone, tyD, cY, cMul, cMod, cDiv, cPow, Cell.dat, b2n, frzS, frzL, fzV, atI, ixN, fMulL, excOf, frzO]; (try first | rfl | exact ⟨rfl, rfl⟩ | exact ⟨rfl, rfl, rfl⟩ | exact ⟨rfl, rfl, rfl, rfl⟩ | exact ⟨rfl, rfl, rfl, rfl, rfl⟩), by simp [Q3, Qd, Qe, Qf, Qg, Qh, Qi, Qj, Qk, Ql, Qm, Qn, Qo, Qp, Qq, Qr, Qs, Qt, Qu, Qv, Qw, Qx, Q7, Qy, Qz, QA, QB, Q8, Q4, QC, QD, QE, QF, QG, Q9, QH, QI, QJ, Qa, QK, QL, QM, QN, QO, QP, QQ, QR, QS, QT, QU, QV, QW, QX, Q0, QY, QZ, Z0, Z1, Z2, Z3, Z4, Z5, Z6, Z7, Z8, Z9, Za, Zb, Zd, Ze, Zf, Zg, Zh, Zi, Zj, Zk, Zl, Zm, Zn, Zo, Zp, Zq, Zr, Zs, Zt, Zu, Zv, Zw, Q5, Zx, Zy, Zz, ZA, ZB, ZC, ZD, ZE, ZF, Qb, ZG, ZH, ZI, ZJ, ZK, ZL, ZM, Q6, ZN, ZO, ZP, ZQ, ZR, ZS, ZT, ZU, ZV, ZW, ZX, ZY, ZZ, Y0, Y1, Y2, Y3, Y4, Y5, Y6, Y7, Y8, Y9, Ya, Yb, Yc, Yd, Ye, Yf, Yg, Yh, Yi, Yj, Yk, Yl, Ym, Yn, Yo, Yp, Yq, Yr, Ys, Yt, Yu, Yv, Yw, Yx, Yy, Yz, YA, YB, YC, YD, YE, YF, YG, YH, YI, YJ, YK, YL, YM, YN, YO, Q1, Q2, Qc, YQ, YR, YS, YT, YU, frz, frzAll, peek, res1, resAll, stoAll, argOf, argsOf, bors, wback, outAt, outsFrom, ownsStay, retv, wipeF, unwipe, sto, isNone, tyD, cY, cMul, cMod, cDiv, cPow, Cell.dat, b2n, frzS, frzL, fzV, atI, ixN, fMulL, excOf, frzO]; (try first | rfl | exact ⟨rfl, rfl⟩ | exact ⟨rfl, rfl, rfl⟩ | exact ⟨rfl, rfl, rfl, rfl⟩ | exact ⟨rfl, rfl, rfl, rfl, rfl⟩), rfl, rfl⟩⟩
end Rf

namespace Rf
open PySem PySem.Spec PyProof.Rows L2
theorem mem_allSw {n : Nat} {d : Dl} : d ∈ allSw n ↔ d.1 = true ∧ 0 ≤ d.2.1 ∧ d.2.1 < d.2.2 ∧ d.2.2 < (n : Nat) := by
  obtain ⟨w, a, v⟩ := d
  constructor
  · intro h
    obtain ⟨i, hi, h⟩ := List.mem_flatMap.1 h
    obtain ⟨j, hj, e⟩ := List.mem_map.1 h
    cases e
    have := swA_mem hj
    exact ⟨rfl, by dsimp only; omega, by dsimp only; omega, by dsimp only; omega⟩
  · rintro ⟨h1, h2, h3, h4⟩
    dsimp only at h1 h2 h3 h4
    subst h1
    refine List.mem_flatMap.2 ⟨a.toNat, List.mem_range.2 (by omega), List.mem_map.2 ⟨v.toNat, ?_, ?_⟩⟩
    · simp only [swA, List.mem_map, List.mem_range]
      exact ⟨v.toNat - (a.toNat + 1), by omega, by omega⟩
    · have e1 : (a.toNat : Int) = a := by omega
      have e2 : (v.toNat : Int) = v := by omega
      rw [e1, e2]
theorem mem_allTk {n : Nat} {r : List Int} {d : Dl} : d ∈ allTk n r ↔ d.1 = false ∧ 0 ≤ d.2.1 ∧ d.2.1 < (n : Nat) ∧ d.2.2 ∈ r := by
  obtain ⟨w, a, v⟩ := d
  constructor
  · intro h
    obtain ⟨i, hi, h⟩ := List.mem_flatMap.1 h
    obtain ⟨x, hx, e⟩ := List.mem_map.1 h
    cases e
    have := List.mem_range.1 hi
    exact ⟨rfl, by dsimp only; omega, by dsimp only; omega, hx⟩
  · rintro ⟨h1, h2, h3, h4⟩
    dsimp only at h1 h2 h3 h4
    subst h1
    refine List.mem_flatMap.2 ⟨a.toNat, List.mem_range.2 (by omega), List.mem_map.2 ⟨v, h4, ?_⟩⟩
    have e1 : (a.toNat : Int) = a := by omega
    rw [e1]
theorem chk_iff {S : Shop} {st : List Int} {w : Bool} {a v : Int} (hl : st.length = S.ranges.length) (hav : w = true → a < v) : chk S st w a v = none ↔ (w, a, v) ∈ dealsL S st := by
  constructor
  · intro h
    obtain ⟨h1, h2, h3, h4⟩ := chk_none h
    refine List.mem_filter.2 ⟨List.mem_append.2 ?_, List.all_eq_true.2 h4⟩
    cases w with
    | true => exact .inl (mem_allSw.2 ⟨rfl, h1.1, hav rfl, by have := (h2 rfl).2; dsimp only; omega⟩)
    | false => exact .inr (mem_allTk.2 ⟨rfl, h1.1, by have := h1.2; dsimp only; omega, h3 rfl⟩)
  · intro h
    obtain ⟨h1, h2⟩ := List.mem_filter.1 h
    have h4 : ∀ p ∈ newV st w a v, S.fit p.1 p.2 = true := List.all_eq_true.1 h2
    have hf : (newV st w a v).find? (fun p => !S.fit p.1 p.2) = none := List.find?_eq_none.2 fun p m => by simp [h4 p m]
    unfold chk
    rcases List.mem_append.1 h1 with h1 | h1
    · obtain ⟨e1, e2, e3, e4⟩ := mem_allSw.1 h1
      dsimp only at e1 e2 e3 e4
      subst e1
      have ha : S.has a := ⟨e2, by omega⟩
      have hv : S.has v := ⟨by omega, by omega⟩
      rw [if_neg (fun z => z ha), if_neg (fun z => z.2 hv), if_neg (fun z => nomatch z.1), hf]
    · obtain ⟨e1, e2, e3, e4⟩ := mem_allTk.1 h1
      dsimp only at e1 e2 e3 e4
      subst e1
      have ha : S.has a := ⟨e2, by omega⟩
      rw [if_neg (fun z => z ha), if_neg (fun z => nomatch z.1), if_neg (fun z => z.2 e4), hf]
theorem ok_enc {l b h : Nat} {d : Dl} (hl : 3 ≤ l) (h1 : d.2.1.natAbs < b) (h2 : d.2.2.natAbs < b) : Ok l b (h + 1) (deD d) := by
  obtain ⟨w, a, v⟩ := d
  refine ⟨by simpa [deD, dealD, sq] using hl, fun x m => ?_⟩
  simp only [List.mem_cons, List.not_mem_nil, or_false] at m
  rcases m with rfl | rfl | rfl
  · have k1 : Ok l b 0 (.str "swap") := ⟨by decide +kernel, by decide +kernel⟩
    have k2 : Ok l b 0 (.str "take") := ⟨by decide +kernel, by decide +kernel⟩
    cases w
    · exact Ok.mono (Nat.le_refl _) (Nat.le_refl _) (Nat.zero_le _) k2
    · exact Ok.mono (Nat.le_refl _) (Nat.le_refl _) (Nat.zero_le _) k1
  · exact Ok.mono (h := 0) (Nat.le_refl _) (Nat.le_refl _) (Nat.zero_le _) h1
  · exact Ok.mono (h := 0) (Nat.le_refl _) (Nat.le_refl _) (Nat.zero_le _) h2
theorem deals_b {M N : Nat} {S : Shop} {st : List Int} (ok : ShopOk M N S) (hl : st.length = S.ranges.length) {d : Dl} (h : d ∈ dealsL S st) : d.2.1.natAbs < M ∧ d.2.2.natAbs ≤ 200000000 + M := by
  have r := ok.rM
  rcases List.mem_append.1 (List.mem_filter.1 h).1 with h1 | h1
  · obtain ⟨e1, e2, e3, e4⟩ := mem_allSw.1 h1
    omega
  · obtain ⟨e1, e2, e3, e4⟩ := mem_allTk.1 h1
    have := ok.sb _ (List.mem_filter.1 e4).1
    omega
theorem deals_n {M N : Nat} {S : Shop} {st : List Int} (ok : ShopOk M N S) (hl : st.length = S.ranges.length) : (dealsL S st).length ≤ M * M + M * N := by
  have h1 := ok.rM
  have h2 := ok.sN
  have n1 := allSw_len st.length
  have n2 := allTk_len st.length (S.store st)
  have n3 : st.length * st.length ≤ M * M := Nat.mul_le_mul (by omega) (by omega)
  have n4 : st.length * (S.store st).length ≤ M * N := Nat.mul_le_mul (by omega) (Nat.le_trans (List.length_filter_le _ _) h2)
  refine Nat.le_trans (List.length_filter_le _ _) ?_
  rw [List.length_append]
  omega
theorem ok_encs {l b h : Nat} {L : List Dl} (hl : 3 ≤ l) (hn : L.length ≤ l) (hb : ∀ d ∈ L, d.2.1.natAbs < b ∧ d.2.2.natAbs < b) : Ok l b (h + 2) (.list (L.map deD)) := ⟨by rw [List.length_map]; exact hn, fun x m => by
  obtain ⟨d, hd, rfl⟩ := List.mem_map.1 m
  exact ok_enc hl (hb d hd).1 (hb d hd).2⟩
theorem ok_lst {l h B : Nat} {x y : PyData} (hl : 2 ≤ l) (h1 : Ok l B h x) (h2 : Ok l B h y) : Ok l B (h + 1) (.list [x, y]) := ⟨by simpa using hl, fun z m => by
  simp only [List.mem_cons, List.not_mem_nil, or_false] at m
  rcases m with rfl | rfl
  · exact h1
  · exact h2⟩
theorem ok_is {n B h : Nat} {l : List Int} (hl : l.length ≤ n) (hb : ∀ x ∈ l, x.natAbs < B) : Ok n B (h + 1) (.tuple (dI l)) := ⟨by rw [List.length_map]; exact hl, fun x m => by
  obtain ⟨i, hi, rfl⟩ := List.mem_map.1 m
  have := hb i hi
  cases h <;> exact this⟩
theorem gI_mem {st : List Int} {i : Int} (h : InS st i) : gI st i ∈ st := by
  obtain ⟨h0, h1⟩ := h
  have hm : i.toNat < st.length := by omega
  simp [gI, hm]
theorem aft_b {B : Nat} {st : List Int} {w : Bool} {a v : Int} (hs : ∀ x ∈ st, x.natAbs < B) (hv : v.natAbs < B) (ha : InS st a) (h : w = true → InS st v) : ∀ x ∈ aft st w a v, x.natAbs < B := by
  intro x m
  cases w with
  | true =>
    rcases List.mem_or_eq_of_mem_set m with m | m
    · rcases List.mem_or_eq_of_mem_set m with m | m
      · exact hs x m
      · rw [m]; exact hs _ (gI_mem (h rfl))
    · rw [m]; exact hs _ (gI_mem ha)
  | false =>
    rcases List.mem_or_eq_of_mem_set m with m | m
    · exact hs x m
    · rw [m]; exact hv
end Rf

namespace Rf
open PySem PySem.Spec PyProof.Rows L2
end Rf

namespace Rf
open PySem PySem.Spec PyProof.Rows L2
end Rf

namespace Rf
open PySem PySem.Spec PyProof.Rows L2
def aftD (st : List Int) (d : Dl) : List Int := aft st d.1 d.2.1 d.2.2
def chkD (S : Shop) (st : List Int) (d : Dl) : Option Xc := chk S st d.1 d.2.1 d.2.2
def chkA (S : Shop) : List Int → List Dl → Option Xc
  | _, [] => none
  | st, d :: ds => match chkD S st d with
    | some x => some x
    | none => chkA S (aftD st d) ds
def aftA : List Int → List Dl → List Int
  | st, [] => st
  | st, d :: ds => aftA (aftD st d) ds
def revD (st : List Int) (d : Dl) : Dl := if d.1 = true then d else (false, d.2.1, gI st d.2.1)
def revA : List Int → List Dl → List Dl
  | _, [] => []
  | st, d :: ds => revD st d :: revA (aftD st d) ds
theorem aftD_len {st : List Int} {d : Dl} : (aftD st d).length = st.length := aft_len
theorem aftA_len : ∀ {ds : List Dl} {st : List Int}, (aftA st ds).length = st.length
  | [], _ => rfl
  | d :: ds, st => by rw [aftA, aftA_len (ds := ds), aftD_len]
theorem chkA_app {S : Shop} : ∀ {ds es : List Dl} {st : List Int}, chkA S st ds = none → chkA S st (ds ++ es) = chkA S (aftA st ds) es
  | [], _, _, _ => rfl
  | d :: ds, es, st, h => by
    simp only [chkA] at h
    split at h
    · cases h
    · rename_i h1
      simp only [List.cons_append, chkA, h1, aftA]
      exact chkA_app h
theorem aftA_app : ∀ {ds es : List Dl} {st : List Int}, aftA st (ds ++ es) = aftA (aftA st ds) es
  | [], _, _ => rfl
  | d :: ds, es, st => by simp only [List.cons_append, aftA]; exact aftA_app
end Rf

namespace Rf
open PySem PySem.Spec PyProof.Rows L2
def SpWander (D : Dm) : Prop := ∀ (C : Int) (k M N : Nat) (s : S0) (S : Shop) (st : List Int), Bx C s → C + k + 10 ≤ BC → k ≤ 100 → ShopOk M N S → M ≤ 12 → N ≤ 12 → st.length = S.ranges.length → Ev D [s, .dat (dShop S), .dat (.tuple (dI st)), .dat (.int (k : Nat))] fun r outs => ∃ row s', r = .dat (.tuple [.list (row.map deD), .tuple (dI (aftA st row))]) ∧ outs = [s', .dat (dShop S), .dat (.tuple (dI st)), .dat (.int (k : Nat))] ∧ Bx (C + k) s' ∧ row.length ≤ k ∧ chkA S st row = none ∧ ∀ d ∈ row, d.2.1.natAbs < M ∧ d.2.2.natAbs ≤ 200000000 + M
theorem at_last (ds : List PyData) (d : PyData) : atI (ds ++ [d]) (-1) = some d := by
  have e2 : (-1 + ((ds.length : Int) + 1)).toNat = ds.length := by omega
  have e1 : (1 : Int) ≤ (ds.length : Int) + 1 := by omega
  simp [atI, ixN, e1, e2]
theorem sp_wander {Ds P A : Dm} (hD : SpDeals Ds) (hP : SpPick P) (hA : SpAfter A) : SpWander (B_wandered Ds P A) := by
  intro C k M N s S st hs hC hk ok hM hN hl
  have hC' : C + k + 10 ≤ 100000000 := hC
  have sN := ok.sN
  have rM := ok.rM
  have l1 : S.sizes.length ≤ 1000 := by omega
  have k1 : (k : Int) < 4611686018427387904 := by omega
  have k2 : -4611686018427387904 ≤ (k : Int) := by omega
  obtain ⟨q, rfl⟩ := hs.own
  refine mkD_wp rfl (wp_nx (by simp [Q3, Qd, Qe, Qf, Qg, Qh, Qi, Qj, Qk, Ql, Qm, Qn, Qo, Qp, Qq, Qr, Qs, Qt, Qu, Qv, Qw, Qx, Q7, Qy, Qz, QA, QB, Q8, Q4, QC, QD, QE, QF, QG, Q9, QH, QI, QJ, Qa, YV, QK, QL, QM, QN, QO, QP, QQ, QR, QS, QT, QU, QV, QW, QX, Q0, QY, QZ, Z0, Z1, Z2, Z3, Z4, Z5, Z6, Z7, Z8, Z9, Za, Zb, Zd, Ze, Zf, Zg, Zh, Zi, Zj, Zk, Zl, Zm, Zn, Zo, Zp, Zq, Zr, Zs, Zt, Zu, Zv, Zw, Q5, Zx, Zy, Zz, ZA, ZB, ZC, ZD, ZE, ZF, Qb, ZG, ZH, ZI, ZJ, ZK, ZL, ZM, Q6, ZN, ZO, ZP, ZQ, ZR, ZS, ZT, ZU, ZV, ZW, ZX, ZY, ZZ, Y0, Y1, Y2, Y3, Y4, Y5, Y6, Y7, Y8, Y9, Ya, Yb, Yc, Yd, Ye, Yf, Yg, Yh, Yi, Yj, Yk, Yl, Ym, Yn, Yo, Yp, Yq, Yr, Ys, Yt, Yu, Yv, Yw, Yx, Yy, Yz, YA, YB, YC, YD, YE, YF, YG, YH, YI, YJ, YK, YL, YM, YN, YO, Q1, Q2, Qc, YQ, YR, YS, YT, YU, frz, frzAll, peek, res1, resAll, stoAll, argOf, argsOf, bors, wback, outAt, outsFrom, ownsStay, retv, wipeF, unwipe, sto, isNone, tyD, cY, cMul, cMod, cDiv, cPow, Cell.dat, b2n, frzS, frzL, fzV, atI, ixN, fMulL, excOf, frzO]; (try first | rfl | exact ⟨rfl, rfl⟩ | exact ⟨rfl, rfl, rfl⟩ | exact ⟨rfl, rfl, rfl, rfl⟩ | exact ⟨rfl, rfl, rfl, rfl, rfl⟩)) ?_)
  refine wp_seq (wp_for (ds := Rf.intsFrom 0 k) (fm0 := [some (.own (.lst q)), some (.dat (dShop S)), some (.dat (.tuple (dI st))), some (.dat (.int (k : Nat))), some (.own (.lst [])), none, none]) (fun j fm => ∃ s' row x5 x6, fm = [some s', some (.dat (dShop S)), some (.dat (.tuple (dI (aftA st row)))), some (.dat (.int (k : Nat))), some (.own (.lst (row.map deD))), x5, x6] ∧ Bx (C + j) s' ∧ row.length ≤ j ∧ chkA S st row = none ∧ ∀ d ∈ row, d.2.1.natAbs < M ∧ d.2.2.natAbs ≤ 200000000 + M) (by simp [Q3, Qd, Qe, Qf, Qg, Qh, Qi, Qj, Qk, Ql, Qm, Qn, Qo, Qp, Qq, Qr, Qs, Qt, Qu, Qv, Qw, Qx, Q7, Qy, Qz, QA, QB, Q8, Q4, QC, QD, QE, QF, QG, Q9, QH, QI, QJ, Qa, YV, QK, QL, QM, QN, QO, QP, QQ, QR, QS, QT, QU, QV, QW, QX, Q0, QY, QZ, Z0, Z1, Z2, Z3, Z4, Z5, Z6, Z7, Z8, Z9, Za, Zb, Zd, Ze, Zf, Zg, Zh, Zi, Zj, Zk, Zl, Zm, Zn, Zo, Zp, Zq, Zr, Zs, Zt, Zu, Zv, Zw, Q5, Zx, Zy, Zz, ZA, ZB, ZC, ZD, ZE, ZF, Qb, ZG, ZH, ZI, ZJ, ZK, ZL, ZM, Q6, ZN, ZO, ZP, ZQ, ZR, ZS, ZT, ZU, ZV, ZW, ZX, ZY, ZZ, Y0, Y1, Y2, Y3, Y4, Y5, Y6, Y7, Y8, Y9, Ya, Yb, Yc, Yd, Ye, Yf, Yg, Yh, Yi, Yj, Yk, Yl, Ym, Yn, Yo, Yp, Yq, Yr, Ys, Yt, Yu, Yv, Yw, Yx, Yy, Yz, YA, YB, YC, YD, YE, YF, YG, YH, YI, YJ, YK, YL, YM, YN, YO, Q1, Q2, Qc, YQ, YR, YS, YT, YU, frz, frzAll, peek, res1, resAll, stoAll, argOf, argsOf, bors, wback, outAt, outsFrom, ownsStay, retv, wipeF, unwipe, sto, isNone, tyD, cY, cMul, cMod, cDiv, cPow, Cell.dat, b2n, frzS, frzL, fzV, atI, ixN, fMulL, excOf, frzO, k1, k2]) ⟨_, [], none, none, rfl, by simpa using hs, by simp, rfl, by simp⟩ ?_ ?_)
  · intro j d hd fm i
    obtain ⟨rfl, hj⟩ := ints_get0 hd
    obtain ⟨s', row, x5, x6, rfl, b, hr, hc, hb⟩ := i
    obtain ⟨q', rfl⟩ := b.own
    refine ⟨_, rfl, ?_⟩
    have hl2 : (aftA st row).length = S.ranges.length := by rw [aftA_len]; exact hl
    have d1 := hD S (aftA st row) l1 (by omega) hl2
    have dn := deals_n ok hl2
    have mm1 : M * M ≤ 12 * 12 := Nat.mul_le_mul hM hM
    have mm2 : M * N ≤ 12 * 12 := Nat.mul_le_mul hM hN
    have okD : Ok 300 (10 ^ 10) 2 (.list ((dealsL S (aftA st row)).map deD)) := ok_encs (h := 0) (by omega) (by omega) fun d m => by have := deals_b ok hl2 m; omega
    have z3 := okD.shaped (by omega)
    refine wp_gh (by simp [Q3, Qd, Qe, Qf, Qg, Qh, Qi, Qj, Qk, Ql, Qm, Qn, Qo, Qp, Qq, Qr, Qs, Qt, Qu, Qv, Qw, Qx, Q7, Qy, Qz, QA, QB, Q8, Q4, QC, QD, QE, QF, QG, Q9, QH, QI, QJ, Qa, YV, QK, QL, QM, QN, QO, QP, QQ, QR, QS, QT, QU, QV, QW, QX, Q0, QY, QZ, Z0, Z1, Z2, Z3, Z4, Z5, Z6, Z7, Z8, Z9, Za, Zb, Zd, Ze, Zf, Zg, Zh, Zi, Zj, Zk, Zl, Zm, Zn, Zo, Zp, Zq, Zr, Zs, Zt, Zu, Zv, Zw, Q5, Zx, Zy, Zz, ZA, ZB, ZC, ZD, ZE, ZF, Qb, ZG, ZH, ZI, ZJ, ZK, ZL, ZM, Q6, ZN, ZO, ZP, ZQ, ZR, ZS, ZT, ZU, ZV, ZW, ZX, ZY, ZZ, Y0, Y1, Y2, Y3, Y4, Y5, Y6, Y7, Y8, Y9, Ya, Yb, Yc, Yd, Ye, Yf, Yg, Yh, Yi, Yj, Yk, Yl, Ym, Yn, Yo, Yp, Yq, Yr, Ys, Yt, Yu, Yv, Yw, Yx, Yy, Yz, YA, YB, YC, YD, YE, YF, YG, YH, YI, YJ, YK, YL, YM, YN, YO, Q1, Q2, Qc, YQ, YR, YS, YT, YU, frz, frzAll, peek, res1, resAll, stoAll, argOf, argsOf, bors, wback, outAt, outsFrom, ownsStay, retv, wipeF, unwipe, sto, isNone, tyD, cY, cMul, cMod, cDiv, cPow, Cell.dat, b2n, frzS, frzL, fzV, atI, ixN, fMulL, excOf, frzO, d1, wback_d2]; (try first | rfl | exact ⟨rfl, rfl⟩ | exact ⟨rfl, rfl, rfl⟩ | exact ⟨rfl, rfl, rfl, rfl⟩ | exact ⟨rfl, rfl, rfl, rfl, rfl⟩)) ?_
    simp only [frzL, frzS, wipeF, List.getElem?_cons_zero, List.getElem?_cons_succ, List.set_cons_zero, List.set_cons_succ, Cell.dat]
    rcases hL : dealsL S (aftA st row) with _ | ⟨d0, L0⟩
    · exact wp_is (by simp [Q3, Qd, Qe, Qf, Qg, Qh, Qi, Qj, Qk, Ql, Qm, Qn, Qo, Qp, Qq, Qr, Qs, Qt, Qu, Qv, Qw, Qx, Q7, Qy, Qz, QA, QB, Q8, Q4, QC, QD, QE, QF, QG, Q9, QH, QI, QJ, Qa, YV, QK, QL, QM, QN, QO, QP, QQ, QR, QS, QT, QU, QV, QW, QX, Q0, QY, QZ, Z0, Z1, Z2, Z3, Z4, Z5, Z6, Z7, Z8, Z9, Za, Zb, Zd, Ze, Zf, Zg, Zh, Zi, Zj, Zk, Zl, Zm, Zn, Zo, Zp, Zq, Zr, Zs, Zt, Zu, Zv, Zw, Q5, Zx, Zy, Zz, ZA, ZB, ZC, ZD, ZE, ZF, Qb, ZG, ZH, ZI, ZJ, ZK, ZL, ZM, Q6, ZN, ZO, ZP, ZQ, ZR, ZS, ZT, ZU, ZV, ZW, ZX, ZY, ZZ, Y0, Y1, Y2, Y3, Y4, Y5, Y6, Y7, Y8, Y9, Ya, Yb, Yc, Yd, Ye, Yf, Yg, Yh, Yi, Yj, Yk, Yl, Ym, Yn, Yo, Yp, Yq, Yr, Ys, Yt, Yu, Yv, Yw, Yx, Yy, Yz, YA, YB, YC, YD, YE, YF, YG, YH, YI, YJ, YK, YL, YM, YN, YO, Q1, Q2, Qc, YQ, YR, YS, YT, YU, frz, frzAll, peek, res1, resAll, stoAll, argOf, argsOf, bors, wback, outAt, outsFrom, ownsStay, retv, wipeF, unwipe, sto, isNone, tyD, cY, cMul, cMod, cDiv, cPow, Cell.dat, b2n, frzS, frzL, fzV, atI, ixN, fMulL, excOf, frzO, PyData.eqv, PyData.eqvAll]; (try first | rfl | exact ⟨rfl, rfl⟩ | exact ⟨rfl, rfl, rfl⟩ | exact ⟨rfl, rfl, rfl, rfl⟩ | exact ⟨rfl, rfl, rfl, rfl, rfl⟩)) ⟨rfl, _, row, _, _, rfl, b.mono (by omega), by omega, hc, hb⟩
    · rw [hL] at z3
      obtain ⟨x, s2, hx, b2, e⟩ := hP (C + j) _ (.dat (.list ((dealsL S (aftA st row)).map deD))) ((dealsL S (aftA st row)).map deD) (.inr (.inl rfl)) b (by show _ ≤ (100000000 : Int); omega) (by rw [hL]; simp) (by rw [List.length_map]; omega)
      obtain ⟨d, md, rfl⟩ := List.mem_map.1 hx
      obtain ⟨w, a, v⟩ := d
      have hav : w = true → a < v := fun e => by
        rcases List.mem_append.1 (List.mem_filter.1 md).1 with h1 | h1
        · exact (mem_allSw.1 h1).2.2.1
        · have := (mem_allTk.1 h1).1
          rw [e] at this
          cases this
      have hcd := (chk_iff hl2 hav).2 md
      obtain ⟨h1, h2, h3, h4⟩ := chk_none hcd
      have a1 : A [.dat (.tuple (dI (aftA st row))), .dat (deD (w, a, v))] = some (.dat (.tuple (dI (aftD (aftA st row) (w, a, v)))), [.dat (.tuple (dI (aftA st row))), .dat (deD (w, a, v))]) := hA w (aftA st row) a v ⟨h1.1, by rw [hl2]; exact h1.2⟩ fun e => ⟨(h2 e).1, by rw [hl2]; exact (h2 e).2⟩
      have bd := deals_b ok hl2 md
      rw [hL] at e
      obtain ⟨q2, rfl⟩ := b2.own
      have h8 : row.length < 16777216 := by omega
      have al := at_last (row.map deD) (deD (w, a, v))
      have ixl : ∀ fm : Fm, fm[4]? = some (some (.own (.lst (row.map deD ++ [deD (w, a, v)])))) → fIx (.bor 4) (.dat (.int (-1))) fm = some (.dat (deD (w, a, v)), fm) := fun fm h => by simp [Q0, peek, h, Cell.dat, al]
      refine wp_if (b := true) (fm1 := [some (.own (.lst q')), some (.dat (dShop S)), some (.dat (.tuple (dI (aftA st row)))), some (.dat (.int (k : Nat))), some (.own (.lst (row.map deD))), some (.dat (.int (j : Nat))), some (.dat (.list ((d0 :: L0).map deD)))]) (by simp only [List.map_cons] at z3; simp [Q3, Qd, Qe, Qf, Qg, Qh, Qi, Qj, Qk, Ql, Qm, Qn, Qo, Qp, Qq, Qr, Qs, Qt, Qu, Qv, Qw, Qx, Q7, Qy, Qz, QA, QB, Q8, Q4, QC, QD, QE, QF, QG, Q9, QH, QI, QJ, Qa, YV, QK, QL, QM, QN, QO, QP, QQ, QR, QS, QT, QU, QV, QW, QX, Q0, QY, QZ, Z0, Z1, Z2, Z3, Z4, Z5, Z6, Z7, Z8, Z9, Za, Zb, Zd, Ze, Zf, Zg, Zh, Zi, Zj, Zk, Zl, Zm, Zn, Zo, Zp, Zq, Zr, Zs, Zt, Zu, Zv, Zw, Q5, Zx, Zy, Zz, ZA, ZB, ZC, ZD, ZE, ZF, Qb, ZG, ZH, ZI, ZJ, ZK, ZL, ZM, Q6, ZN, ZO, ZP, ZQ, ZR, ZS, ZT, ZU, ZV, ZW, ZX, ZY, ZZ, Y0, Y1, Y2, Y3, Y4, Y5, Y6, Y7, Y8, Y9, Ya, Yb, Yc, Yd, Ye, Yf, Yg, Yh, Yi, Yj, Yk, Yl, Ym, Yn, Yo, Yp, Yq, Yr, Ys, Yt, Yu, Yv, Yw, Yx, Yy, Yz, YA, YB, YC, YD, YE, YF, YG, YH, YI, YJ, YK, YL, YM, YN, YO, Q1, Q2, Qc, YQ, YR, YS, YT, YU, frz, frzAll, peek, res1, resAll, stoAll, argOf, argsOf, bors, wback, outAt, outsFrom, ownsStay, retv, wipeF, unwipe, sto, isNone, tyD, cY, cMul, cMod, cDiv, cPow, Cell.dat, b2n, frzS, frzL, fzV, atI, ixN, fMulL, excOf, frzO, PyData.eqv, PyData.eqvAll, z3]) (fun _ => ?_) (fun h => nomatch h)
      have e' : P [.own (.lst q'), .dat (.list ((d0 :: L0).map deD))] = some (.dat (deD (w, a, v)), [.own (.lst q2), .dat (.list ((d0 :: L0).map deD))]) := e
      generalize (d0 :: L0).map deD = LL at e' ⊢
      refine wp_nx (fm1 := [some (.own (.lst q2)), some (.dat (dShop S)), some (.dat (.tuple (dI (aftA st row)))), some (.dat (.int (k : Nat))), some (.own (.lst (row.map deD ++ [deD (w, a, v)]))), some (.dat (.int (j : Nat))), some (.dat (.list LL))]) (by simp [Q3, Qd, Qe, Qf, Qg, Qh, Qi, Qj, Qk, Ql, Qm, Qn, Qo, Qp, Qq, Qr, Qs, Qt, Qu, Qv, Qw, Qx, Q7, Qy, Qz, QA, QB, Q8, Q4, QC, QD, QE, QF, QG, Q9, QH, QI, QJ, Qa, YV, QK, QL, QM, QN, QO, QP, QQ, QR, QS, QT, QU, QV, QW, QX, Q0, QY, QZ, Z0, Z1, Z2, Z3, Z4, Z5, Z6, Z7, Z8, Z9, Za, Zb, Zd, Ze, Zf, Zg, Zh, Zi, Zj, Zk, Zl, Zm, Zn, Zo, Zp, Zq, Zr, Zs, Zt, Zu, Zv, Zw, Q5, Zx, Zy, Zz, ZA, ZB, ZC, ZD, ZE, ZF, Qb, ZG, ZH, ZI, ZJ, ZK, ZL, ZM, Q6, ZN, ZO, ZP, ZQ, ZR, ZS, ZT, ZU, ZV, ZW, ZX, ZY, ZZ, Y0, Y1, Y2, Y3, Y4, Y5, Y6, Y7, Y8, Y9, Ya, Yb, Yc, Yd, Ye, Yf, Yg, Yh, Yi, Yj, Yk, Yl, Ym, Yn, Yo, Yp, Yq, Yr, Ys, Yt, Yu, Yv, Yw, Yx, Yy, Yz, YA, YB, YC, YD, YE, YF, YG, YH, YI, YJ, YK, YL, YM, YN, YO, Q1, Q2, Qc, YQ, YR, YS, YT, YU, frz, frzAll, peek, res1, resAll, stoAll, argOf, argsOf, bors, wback, outAt, outsFrom, ownsStay, retv, wipeF, unwipe, sto, isNone, tyD, cY, cMul, cMod, cDiv, cPow, Cell.dat, b2n, frzS, frzL, fzV, atI, ixN, fMulL, excOf, frzO, e', h8]) (wp_is (fl := .nx) (fm' := [some (.own (.lst q2)), some (.dat (dShop S)), some (.dat (.tuple (dI (aftD (aftA st row) (w, a, v))))), some (.dat (.int (k : Nat))), some (.own (.lst (row.map deD ++ [deD (w, a, v)]))), some (.dat (.int (j : Nat))), some (.dat (.list LL))]) (by simp [Q3, Qd, Qe, Qf, Qg, Qh, Qi, Qj, Qk, Ql, Qm, Qn, Qo, Qp, Qq, Qr, Qs, Qt, Qu, Qv, Qw, Qx, Q7, Qy, Qz, QA, QB, Q8, Q4, QC, QD, QE, QF, QG, Q9, QH, QI, QJ, Qa, YV, QK, QL, QM, QN, QO, QP, QQ, QR, QS, QT, QU, QV, QW, QX, Q0, QY, QZ, Z0, Z1, Z2, Z3, Z4, Z5, Z6, Z7, Z8, Z9, Za, Zb, Zd, Ze, Zf, Zg, Zh, Zi, Zj, Zk, Zl, Zm, Zn, Zo, Zp, Zq, Zr, Zs, Zt, Zu, Zv, Zw, Q5, Zx, Zy, Zz, ZA, ZB, ZC, ZD, ZE, ZF, Qb, ZG, ZH, ZI, ZJ, ZK, ZL, ZM, Q6, ZN, ZO, ZP, ZQ, ZR, ZS, ZT, ZU, ZV, ZW, ZX, ZY, ZZ, Y0, Y1, Y2, Y3, Y4, Y5, Y6, Y7, Y8, Y9, Ya, Yb, Yc, Yd, Ye, Yf, Yg, Yh, Yi, Yj, Yk, Yl, Ym, Yn, Yo, Yp, Yq, Yr, Ys, Yt, Yu, Yv, Yw, Yx, Yy, Yz, YA, YB, YC, YD, YE, YF, YG, YH, YI, YJ, YK, YL, YM, YN, YO, Q1, Q2, Qc, YQ, YR, YS, YT, YU, frz, frzAll, peek, res1, resAll, stoAll, argOf, argsOf, bors, wback, outAt, outsFrom, ownsStay, retv, wipeF, unwipe, sto, isNone, tyD, cY, cMul, cMod, cDiv, cPow, Cell.dat, b2n, frzS, frzL, fzV, atI, ixN, fMulL, excOf, frzO, -Q0, ixl, a1, wback_d2]) ⟨rfl, _, row ++ [(w, a, v)], _, _, by rw [aftA_app, List.map_append]; rfl, b2.mono (by omega), by simp; omega, ?_, ?_⟩)
      · rw [chkA_app hc]
        simp [chkA, chkD, hcd]
      · intro d m
        rcases List.mem_append.1 m with m | m
        · exact hb d m
        · obtain rfl : d = (w, a, v) := by simpa using m
          exact bd
  · intro fm' i
    rw [ints_len] at i
    obtain ⟨s', row, x5, x6, rfl, b, hr, hc, hb⟩ := i
    obtain ⟨q', rfl⟩ := b.own
    exact ⟨rfl, wp_is (by simp [Q3, Qd, Qe, Qf, Qg, Qh, Qi, Qj, Qk, Ql, Qm, Qn, Qo, Qp, Qq, Qr, Qs, Qt, Qu, Qv, Qw, Qx, Q7, Qy, Qz, QA, QB, Q8, Q4, QC, QD, QE, QF, QG, Q9, QH, QI, QJ, Qa, YV, QK, QL, QM, QN, QO, QP, QQ, QR, QS, QT, QU, QV, QW, QX, Q0, QY, QZ, Z0, Z1, Z2, Z3, Z4, Z5, Z6, Z7, Z8, Z9, Za, Zb, Zd, Ze, Zf, Zg, Zh, Zi, Zj, Zk, Zl, Zm, Zn, Zo, Zp, Zq, Zr, Zs, Zt, Zu, Zv, Zw, Q5, Zx, Zy, Zz, ZA, ZB, ZC, ZD, ZE, ZF, Qb, ZG, ZH, ZI, ZJ, ZK, ZL, ZM, Q6, ZN, ZO, ZP, ZQ, ZR, ZS, ZT, ZU, ZV, ZW, ZX, ZY, ZZ, Y0, Y1, Y2, Y3, Y4, Y5, Y6, Y7, Y8, Y9, Ya, Yb, Yc, Yd, Ye, Yf, Yg, Yh, Yi, Yj, Yk, Yl, Ym, Yn, Yo, Yp, Yq, Yr, Ys, Yt, Yu, Yv, Yw, Yx, Yy, Yz, YA, YB, YC, YD, YE, YF, YG, YH, YI, YJ, YK, YL, YM, YN, YO, Q1, Q2, Qc, YQ, YR, YS, YT, YU, frz, frzAll, peek, res1, resAll, stoAll, argOf, argsOf, bors, wback, outAt, outsFrom, ownsStay, retv, wipeF, unwipe, sto, isNone, tyD, cY, cMul, cMod, cDiv, cPow, Cell.dat, b2n, frzS, frzL, fzV, atI, ixN, fMulL, excOf, frzO]; (try first | rfl | exact ⟨rfl, rfl⟩ | exact ⟨rfl, rfl, rfl⟩ | exact ⟨rfl, rfl, rfl, rfl⟩ | exact ⟨rfl, rfl, rfl, rfl, rfl⟩)) ⟨_, _, _, _, rfl, by simp [Q3, Qd, Qe, Qf, Qg, Qh, Qi, Qj, Qk, Ql, Qm, Qn, Qo, Qp, Qq, Qr, Qs, Qt, Qu, Qv, Qw, Qx, Q7, Qy, Qz, QA, QB, Q8, Q4, QC, QD, QE, QF, QG, Q9, QH, QI, QJ, Qa, YV, QK, QL, QM, QN, QO, QP, QQ, QR, QS, QT, QU, QV, QW, QX, Q0, QY, QZ, Z0, Z1, Z2, Z3, Z4, Z5, Z6, Z7, Z8, Z9, Za, Zb, Zd, Ze, Zf, Zg, Zh, Zi, Zj, Zk, Zl, Zm, Zn, Zo, Zp, Zq, Zr, Zs, Zt, Zu, Zv, Zw, Q5, Zx, Zy, Zz, ZA, ZB, ZC, ZD, ZE, ZF, Qb, ZG, ZH, ZI, ZJ, ZK, ZL, ZM, Q6, ZN, ZO, ZP, ZQ, ZR, ZS, ZT, ZU, ZV, ZW, ZX, ZY, ZZ, Y0, Y1, Y2, Y3, Y4, Y5, Y6, Y7, Y8, Y9, Ya, Yb, Yc, Yd, Ye, Yf, Yg, Yh, Yi, Yj, Yk, Yl, Ym, Yn, Yo, Yp, Yq, Yr, Ys, Yt, Yu, Yv, Yw, Yx, Yy, Yz, YA, YB, YC, YD, YE, YF, YG, YH, YI, YJ, YK, YL, YM, YN, YO, Q1, Q2, Qc, YQ, YR, YS, YT, YU, frz, frzAll, peek, res1, resAll, stoAll, argOf, argsOf, bors, wback, outAt, outsFrom, ownsStay, retv, wipeF, unwipe, sto, isNone, tyD, cY, cMul, cMod, cDiv, cPow, Cell.dat, b2n, frzS, frzL, fzV, atI, ixN, fMulL, excOf, frzO]; (try first | rfl | exact ⟨rfl, rfl⟩ | exact ⟨rfl, rfl, rfl⟩ | exact ⟨rfl, rfl, rfl, rfl⟩ | exact ⟨rfl, rfl, rfl, rfl, rfl⟩), by simp [Q3, Qd, Qe, Qf, Qg, Qh, Qi, Qj, Qk, Ql, Qm, Qn, Qo, Qp, Qq, Qr, Qs, Qt, Qu, Qv, Qw, Qx, Q7, Qy, Qz, QA, QB, Q8, Q4, QC, QD, QE, QF, QG, Q9, QH, QI, QJ, Qa, YV, QK, QL, QM, QN, QO, QP, QQ, QR, QS, QT, QU, QV, QW, QX, Q0, QY, QZ, Z0, Z1, Z2, Z3, Z4, Z5, Z6, Z7, Z8, Z9, Za, Zb, Zd, Ze, Zf, Zg, Zh, Zi, Zj, Zk, Zl, Zm, Zn, Zo, Zp, Zq, Zr, Zs, Zt, Zu, Zv, Zw, Q5, Zx, Zy, Zz, ZA, ZB, ZC, ZD, ZE, ZF, Qb, ZG, ZH, ZI, ZJ, ZK, ZL, ZM, Q6, ZN, ZO, ZP, ZQ, ZR, ZS, ZT, ZU, ZV, ZW, ZX, ZY, ZZ, Y0, Y1, Y2, Y3, Y4, Y5, Y6, Y7, Y8, Y9, Ya, Yb, Yc, Yd, Ye, Yf, Yg, Yh, Yi, Yj, Yk, Yl, Ym, Yn, Yo, Yp, Yq, Yr, Ys, Yt, Yu, Yv, Yw, Yx, Yy, Yz, YA, YB, YC, YD, YE, YF, YG, YH, YI, YJ, YK, YL, YM, YN, YO, Q1, Q2, Qc, YQ, YR, YS, YT, YU, frz, frzAll, peek, res1, resAll, stoAll, argOf, argsOf, bors, wback, outAt, outsFrom, ownsStay, retv, wipeF, unwipe, sto, isNone, tyD, cY, cMul, cMod, cDiv, cPow, Cell.dat, b2n, frzS, frzL, fzV, atI, ixN, fMulL, excOf, frzO]; (try first | rfl | exact ⟨rfl, rfl⟩ | exact ⟨rfl, rfl, rfl⟩ | exact ⟨rfl, rfl, rfl, rfl⟩ | exact ⟨rfl, rfl, rfl, rfl, rfl⟩), row, _, rfl, rfl, b, hr, hc, hb⟩⟩
section
variable {P R A F : Dm} (hP : SpPart P) (hR : SpStore R) (hA : SpAfter A) (hF : SpFitsL F)
include hP hR hA hF
end
end Rf

namespace Rf
open PySem PySem.Spec PyProof.Rows L2
end Rf

namespace Rf
def itr (f : Nat → Option Nat) : Nat → Nat → Option Nat
  | 0, m => some m
  | t + 1, m => (itr f t m).bind f
def stp (f : Nat → Option Nat) (m t : Nat) : Bool := match itr f t m with
  | none => true
  | some k => decide (k = m)
def lnF (f : Nat → Option Nat) (m : Nat) : Nat → Nat → Nat
  | 0, t => t
  | k + 1, t => if stp f m t = true then t else lnF f m k (t + 1)
def ln (n : Nat) (f : Nat → Option Nat) (m : Nat) : Nat := lnF f m n 1
def wlk (n : Nat) (f : Nat → Option Nat) (m : Nat) : List Nat := (List.range (ln n f m)).map fun t => (itr f t m).getD 0
def cls (n : Nat) (f : Nat → Option Nat) (m : Nat) : Bool := decide (itr f (ln n f m) m = some m)
def rep (n : Nat) (f : Nat → Option Nat) : List Nat := (List.range n).filter fun m => cls n f m && (wlk n f m).all fun k => decide (m ≤ k)
def heads (n : Nat) (f : Nat → Option Nat) : List Nat := (List.range n).filter fun m => (List.range n).all fun k => !decide (f k = some m)
def few (n : Nat) (f : Nat → Option Nat) : Nat := ((rep n f).map fun m => ln n f m - 1).sum + ((heads n f).map (ln n f)).sum
end Rf

namespace Rf
open PySem PySem.Spec PyProof.Rows L2
section
variable {S : Shop} {one other : List Int}
end
def oF (l : List Int) (k : Nat) : Int := (l[k]?).getD 0
end Rf

namespace Rf
open PySem PySem.Spec PyProof.Rows L2
def hv : Option Nat → PyData
  | some k => .int (k : Nat)
  | none => .none
end Rf

namespace Rf
end Rf

namespace Rf
open PySem PySem.Spec PyProof.Rows L2
end Rf

namespace Rf
open PySem PySem.Spec PyProof.Rows L2
end Rf

namespace Rf
open PySem PySem.Spec PyProof.Rows L2
def Bd (B : Nat) (row : List Dl) : Prop := ∀ d ∈ row, d.2.1.natAbs < B ∧ d.2.2.natAbs < B
theorem aftA_b {S : Shop} {B : Nat} : ∀ {row : List Dl} {st : List Int}, Bd B row → (∀ x ∈ st, x.natAbs < B) → st.length = S.ranges.length → chkA S st row = none → (∀ x ∈ aftA st row, x.natAbs < B) ∧ Bd B (revA st row)
  | [], st, _, hs, _, _ => ⟨hs, fun d m => nomatch m⟩
  | d :: row, st, hb, hs, hl, h => by
    simp only [chkA] at h
    split at h
    · cases h
    · rename_i hd
      obtain ⟨h1, h2, _, _⟩ := chk_none hd
      have iA : InS st d.2.1 := ⟨h1.1, by rw [hl]; exact h1.2⟩
      have bd := hb d (by simp)
      obtain ⟨k1, k2⟩ := aftA_b (row := row) (st := aftD st d) (fun e m => hb e (by simp [m])) (aft_b hs bd.2 iA fun e => ⟨(h2 e).1, by rw [hl]; exact (h2 e).2⟩) (by rw [aftD_len]; exact hl) h
      refine ⟨k1, fun e m => ?_⟩
      rcases List.mem_cons.1 m with rfl | m
      · unfold revD
        split
        · exact bd
        · exact ⟨bd.1, hs _ (gI_mem iA)⟩
      · exact k2 e m
end Rf

namespace Rf
open PySem PySem.Spec PyProof.Rows L2
end Rf

namespace Rf
open PySem PySem.Spec PyProof.Rows L2
end Rf

namespace Rf
open PySem PySem.Spec PyProof.Rows L2
section
variable {n : Nat} {f : Nat → Option Nat}
end
end Rf

namespace Rf
open PySem PySem.Spec PyProof.Rows L2
end Rf

namespace Rf
open PySem PySem.Spec PyProof.Rows L2
abbrev tIs (st : List Int) : PyData := .tuple (dI st)
end Rf

namespace Rf
open PySem PySem.Spec PyProof.Rows L2
def mn : List Int → Int
  | [] => 0
  | n :: ns => ns.foldl min n
def mx : List Int → Int
  | [] => 0
  | n :: ns => ns.foldl max n
theorem fmin_le : ∀ (ns : List Int) (n : Int), ns.foldl min n ≤ n ∧ ∀ x ∈ ns, ns.foldl min n ≤ x
  | [], n => ⟨Int.le_refl _, fun _ h => nomatch h⟩
  | m :: ns, n => by
    obtain ⟨h1, h2⟩ := fmin_le ns (min n m)
    refine ⟨by simp only [List.foldl_cons]; omega, fun x hx => ?_⟩
    rcases List.mem_cons.1 hx with rfl | hx
    · simp only [List.foldl_cons]; omega
    · exact h2 x hx
theorem fmin_mem : ∀ (ns : List Int) (n : Int), ns.foldl min n = n ∨ ns.foldl min n ∈ ns
  | [], n => .inl rfl
  | m :: ns, n => by
    simp only [List.foldl_cons]
    rcases fmin_mem ns (min n m) with h | h
    · rcases Int.le_total n m with q | q
      · left; rw [h]; omega
      · right; rw [h, show min n m = m by omega]; simp
    · right; exact List.mem_cons_of_mem _ h
theorem fmax_le : ∀ (ns : List Int) (n : Int), n ≤ ns.foldl max n ∧ ∀ x ∈ ns, x ≤ ns.foldl max n
  | [], n => ⟨Int.le_refl _, fun _ h => nomatch h⟩
  | m :: ns, n => by
    obtain ⟨h1, h2⟩ := fmax_le ns (max n m)
    refine ⟨by simp only [List.foldl_cons]; omega, fun x hx => ?_⟩
    rcases List.mem_cons.1 hx with rfl | hx
    · simp only [List.foldl_cons]; omega
    · exact h2 x hx
theorem fmax_mem : ∀ (ns : List Int) (n : Int), ns.foldl max n = n ∨ ns.foldl max n ∈ ns
  | [], n => .inl rfl
  | m :: ns, n => by
    simp only [List.foldl_cons]
    rcases fmax_mem ns (max n m) with h | h
    · rcases Int.le_total m n with q | q
      · left; rw [h]; omega
      · right; rw [h, show max n m = m by omega]; simp
    · right; exact List.mem_cons_of_mem _ h
theorem mn_mem {c : List Int} (h : c ≠ []) : mn c ∈ c := by
  cases c with
  | nil => exact absurd rfl h
  | cons n ns => rcases fmin_mem ns n with q | q <;> simp [mn, q]
theorem mx_mem {c : List Int} (h : c ≠ []) : mx c ∈ c := by
  cases c with
  | nil => exact absurd rfl h
  | cons n ns => rcases fmax_mem ns n with q | q <;> simp [mx, q]
theorem mn_le {c : List Int} {x : Int} (h : x ∈ c) : mn c ≤ x := by
  cases c with
  | nil => exact nomatch h
  | cons n ns => rcases List.mem_cons.1 h with rfl | h; exact (fmin_le ns _).1; exact (fmin_le ns n).2 x h
theorem le_mx {c : List Int} {x : Int} (h : x ∈ c) : x ≤ mx c := by
  cases c with
  | nil => exact nomatch h
  | cons n ns => rcases List.mem_cons.1 h with rfl | h; exact (fmax_le ns _).1; exact (fmax_le ns n).2 x h
theorem sort_ends {c : List Int} (h : c ≠ []) : ∃ a m z, sortI c = a :: m ∧ (sortI c).getLast? = some z ∧ a = mn c ∧ z = mx c := by
  have hp := sortI_perm c
  have hs := sortI_pair c
  have hne : sortI c ≠ [] := fun e => h (by rw [e] at hp; exact hp.symm.eq_nil)
  obtain ⟨a, m, e⟩ : ∃ a m, sortI c = a :: m := by
    cases q : sortI c with
    | nil => exact absurd q hne
    | cons a m => exact ⟨a, m, rfl⟩
  have hz : (sortI c).getLast? = some ((sortI c).getLast hne) := List.getLast?_eq_some_getLast hne
  refine ⟨a, m, _, e, hz, ?_, ?_⟩
  · have h1 : mn c ≤ a := mn_le (hp.mem_iff.1 (by rw [e]; simp))
    have h2 : a ≤ mn c := by
      have : mn c ∈ a :: m := by rw [← e]; exact hp.mem_iff.2 (mn_mem h)
      rw [e] at hs
      rcases List.mem_cons.1 this with q | q
      · omega
      · exact (List.pairwise_cons.1 hs).1 _ q
    omega
  · obtain ⟨z, hz2⟩ : ∃ z, z = (sortI c).getLast hne := ⟨_, rfl⟩
    rw [← hz2]
    have e2 : sortI c = (sortI c).dropLast ++ [z] := by rw [hz2]; exact (List.dropLast_concat_getLast hne).symm
    have h1 : z ≤ mx c := le_mx (hp.mem_iff.1 (by rw [hz2]; exact List.getLast_mem hne))
    have h2 : mx c ≤ z := by
      have : mx c ∈ sortI c := hp.mem_iff.2 (mx_mem h)
      rw [e2] at this hs
      rcases List.mem_append.1 this with q | q
      · exact (List.pairwise_append.1 hs).2.2 _ q z (by simp)
      · have : mx c = z := by simpa using q
        omega
    omega
def col (Ls : List (List Int)) (i : Nat) : List Int := Ls.map fun l => (l[i]?).getD 0
theorem col_ne {Ls : List (List Int)} {i : Nat} (h : Ls ≠ []) : col Ls i ≠ [] := by
  cases Ls with
  | nil => exact absurd rfl h
  | cons l Ls => simp [col]
def hp2 (c : List Int) : PyData := .tuple [.int (mn c), .int (mx c)]
def hul (m : Nat) (Ls : List (List Int)) : List PyData := (List.range m).map fun i => hp2 (col Ls i)
theorem allSeq_rows (c : Bool) : ∀ Ls : List (List Int), allSeq (Ls.map fun l => sq c (dI l)) = some (Ls.map dI)
  | [] => rfl
  | l :: Ls => by
    show (match seqD (sq c (dI l)) with | some e => (match allSeq (Ls.map fun l => sq c (dI l)) with | some es => some (e :: es) | none => none) | none => none) = _
    rw [allSeq_rows c Ls]
    cases c <;> rfl
theorem zipD_rows (c : Bool) {m : Nat} {Ls : List (List Int)} (h0 : Ls ≠ []) (h1 : Ls.length ≤ 21) (h2 : ∀ l ∈ Ls, l.length = m) : zipD (Ls.map fun l => sq c (dI l)) = some ((List.range m).map fun i => .tuple (dI (col Ls i))) := by
  cases Ls with
  | nil => exact absurd rfl h0
  | cons l Ls =>
    have hl : (dI l).length = m := by simp [dI, h2 l (by simp)]
    unfold zipD
    rw [allSeq_rows]
    simp only [List.map_cons]
    rw [if_pos ⟨by simp at h1 ⊢; omega, by
      rw [List.all_eq_true]
      intro x hx
      obtain ⟨l', hl', rfl⟩ := List.mem_map.1 hx
      simp [dI, h2 l' (by simp [hl']), h2 l (by simp)]⟩, hl]
    refine congrArg some (List.map_congr_left fun i hi => ?_)
    have hi := List.mem_range.1 hi
    have key : ∀ l' : List Int, l'.length = m → ((dI l')[i]?).getD PyData.none = .int ((l'[i]?).getD 0) := fun l' e => by
      have : i < l'.length := by omega
      simp [dI, List.getElem?_eq_getElem this]
    refine congrArg PyData.tuple ?_
    have : ∀ Ls' : List (List Int), (∀ l ∈ Ls', l.length = m) → (Ls'.map dI).map (fun ds => (ds[i]?).getD PyData.none) = dI (col Ls' i) := fun Ls' h => by
      simp only [dI, col, List.map_map]
      exact List.map_congr_left fun l' hl' => by simpa [dI] using key l' (h l' hl')
    exact this (l :: Ls) h2
def SpHul (D : Dm) : Prop := ∀ (b c : Bool) (m : Nat) (Ls : List (List Int)), Ls ≠ [] → Ls.length ≤ 21 → (∀ l ∈ Ls, l.length = m) → m ≤ 1000 → D [.dat (sq b (Ls.map fun l => sq c (dI l)))] = some (.dat (.tuple (hul m Ls)), [.dat (sq b (Ls.map fun l => sq c (dI l)))])
theorem best_ii (g : Int → Int → Int) (n : Int) (ns : List Int) (fm : Fm) : fBest g [.dat (.tuple (dI (n :: ns)))] fm = some (.dat (.int (ns.foldl g n)), fm) := by
  have : intsD (dI (n :: ns)) = some (n :: ns) := intsD_map _
  unfold fBest
  simp only [peek, seqD]
  rw [this]
theorem sp_hul : SpHul Bhulls := by
  intro b c m Ls h0 h1 h2 hm
  have z := zipD_rows c h0 h1 h2
  generalize Ls.map (fun l => sq c (dI l)) = rows at z ⊢
  have hs : seqD (sq b rows) = some rows := by cases b <;> rfl
  have lc : mLc 2 (iZpS (mVar 0)) (gSet 1) mYes (mTup (mCons (mB1 fMinX (mCons (mVar 1) mNil)) (mCons (mB1 (fBest max) (mCons (mVar 1) mNil)) mNil))) [1] [some (.dat (sq b rows)), none] = some (.fre (.lst (hul m Ls)), [some (.dat (sq b rows)), none]) := by
    refine lc_all (fun i => PyData.tuple (dI (col Ls i))) (fun i => hp2 (col Ls i)) (List.range m) (fm1 := [some (.dat (sq b rows)), none]) (fmw := [some (.dat (sq b rows)), none]) ?_ ?_ ?_ ?_ ?_ ?_
    · simp [iZpS, Q3, frz, hs, z]
    · simp
    · rfl
    · rfl
    · simp; omega
    · intro i _
      obtain ⟨n, ns, e⟩ : ∃ n ns, col Ls i = n :: ns := by
        cases q : col Ls i with
        | nil => exact absurd q (col_ne h0)
        | cons n ns => exact ⟨n, ns, rfl⟩
      have b1 : ∀ fm, fMinX [.dat (.tuple (dI (n :: ns)))] fm = some (.dat (.int (ns.foldl min n)), fm) := fun fm => by unfold fMinX; rw [best_ii]
      have b2 := best_ii max n ns
      refine ⟨[some (.dat (sq b rows)), some (.dat (.tuple (dI (col Ls i))))], .dat (hp2 (col Ls i)), rfl, ?_, rfl, rfl⟩
      rw [e]
      generalize PyData.tuple (dI (n :: ns)) = T at b1 b2
      simp [Q3, Qd, Qe, Qf, Qg, Qh, Qi, Qj, Qk, Ql, Qm, Qn, Qo, Qp, Qq, Qr, Qs, Qt, Qu, Qv, Qw, Qx, Q7, Qy, Qz, QA, QB, Q8, Q4, QC, QD, QE, QF, QG, Q9, QH, QI, QJ, Qa, YV, QK, QL, QM, QN, QO, QP, QQ, QR, QS, QT, QU, QV, QW, QX, Q0, QY, QZ, Z0, Z1, Z2, Z3, Z4, Z5, Z6, Z7, Z8, Z9, Za, Zb, Zd, Ze, Zf, Zg, Zh, Zi, Zj, Zk, Zl, Zm, Zn, Zo, Zp, Zq, Zr, Zs, Zt, Zu, Zv, Zw, Q5, Zx, Zy, Zz, ZA, ZB, ZC, ZD, ZE, ZF, Qb, ZG, ZH, ZI, ZJ, ZK, ZL, ZM, Q6, ZN, ZO, ZP, ZQ, ZR, ZS, ZT, ZU, ZV, ZW, ZX, ZY, ZZ, Y0, Y1, Y2, Y3, Y4, Y5, Y6, Y7, Y8, Y9, Ya, Yb, Yc, Yd, Ye, Yf, Yg, Yh, Yi, Yj, Yk, Yl, Ym, Yn, Yo, Yp, Yq, Yr, Ys, Yt, Yu, Yv, Yw, Yx, Yy, Yz, YA, YB, YC, YD, YE, YF, YG, YH, YI, YJ, YK, YL, YM, YN, YO, Q1, Q2, Qc, YQ, YR, YS, YT, YU, frz, frzAll, peek, res1, resAll, stoAll, argOf, argsOf, bors, wback, outAt, outsFrom, ownsStay, retv, wipeF, unwipe, sto, isNone, tyD, cY, cMul, cMod, cDiv, cPow, Cell.dat, b2n, frzS, frzL, fzV, atI, ixN, fMulL, excOf, frzO, -Q6, -Q5, b1, b2, hp2, mn, mx]
  have hl : (hul m Ls).length ≤ 16777216 := by simp [hul]; omega
  generalize hul m Ls = U at lc hl ⊢
  generalize sq b rows = W at lc ⊢
  simp [Bhulls, Q3, Qd, Qe, Qf, Qg, Qh, Qi, Qj, Qk, Ql, Qm, Qn, Qo, Qp, Qq, Qr, Qs, Qt, Qu, Qv, Qw, Qx, Q7, Qy, Qz, QA, QB, Q8, Q4, QC, QD, QE, QF, QG, Q9, QH, QI, QJ, Qa, QK, QL, QM, QN, QO, QP, QQ, QR, QS, QT, QU, QV, QW, QX, Q0, QY, QZ, Z0, Z1, Z2, Z3, Z4, Z5, Z6, Z7, Z8, Z9, Za, Zb, Zd, Ze, Zf, Zg, Zh, Zi, Zj, Zk, Zl, Zm, Zn, Zo, Zp, Zq, Zr, Zs, Zt, Zu, Zv, Zw, Q5, Zx, Zy, Zz, ZA, ZB, ZC, ZD, ZE, ZF, Qb, ZG, ZH, ZI, ZJ, ZK, ZL, ZM, Q6, ZN, ZO, ZP, ZQ, ZR, ZS, ZT, ZU, ZV, ZW, ZX, ZY, ZZ, Y0, Y1, Y2, Y3, Y4, Y5, Y6, Y7, Y8, Y9, Ya, Yb, Yc, Yd, Ye, Yf, Yg, Yh, Yi, Yj, Yk, Yl, Ym, Yn, Yo, Yp, Yq, Yr, Ys, Yt, Yu, Yv, Yw, Yx, Yy, Yz, YA, YB, YC, YD, YE, YF, YG, YH, YI, YJ, YK, YL, YM, YN, YO, Q1, Q2, Qc, YQ, YR, YS, YT, YU, frz, frzAll, peek, res1, resAll, stoAll, argOf, argsOf, bors, wback, outAt, outsFrom, ownsStay, retv, wipeF, unwipe, sto, isNone, tyD, cY, cMul, cMod, cDiv, cPow, Cell.dat, b2n, frzS, frzL, fzV, atI, ixN, fMulL, excOf, frzO, lc, hl]
def SpHulO (D : Dm) : Prop := ∀ (c : Bool) (m : Nat) (Ls : List (List Int)), Ls ≠ [] → Ls.length ≤ 21 → (∀ l ∈ Ls, l.length = m) → m ≤ 1000 → D [.own (.lst (Ls.map fun l => sq c (dI l)))] = some (.dat (.tuple (hul m Ls)), [.dat (.list (Ls.map fun l => sq c (dI l)))])
theorem sp_hulO : SpHulO Bhulls := by
  intro c m Ls h0 h1 h2 hm
  have z := zipD_rows c h0 h1 h2
  generalize Ls.map (fun l => sq c (dI l)) = rows at z ⊢
  have lc : mLc 2 (iZpS (mVar 0)) (gSet 1) mYes (mTup (mCons (mB1 fMinX (mCons (mVar 1) mNil)) (mCons (mB1 (fBest max) (mCons (mVar 1) mNil)) mNil))) [1] [some (.own (.lst rows)), none] = some (.fre (.lst (hul m Ls)), [some (.dat (.list rows)), none]) := by
    refine lc_all (fun i => PyData.tuple (dI (col Ls i))) (fun i => hp2 (col Ls i)) (List.range m) (fm1 := [some (.dat (.list rows)), none]) (fmw := [some (.dat (.list rows)), none]) ?_ ?_ ?_ ?_ ?_ ?_
    · simp [iZpS, Q3, frz, Cell.dat, seqD, z]
    · simp
    · rfl
    · rfl
    · simp; omega
    · intro i _
      obtain ⟨n, ns, e⟩ : ∃ n ns, col Ls i = n :: ns := by
        cases q : col Ls i with
        | nil => exact absurd q (col_ne h0)
        | cons n ns => exact ⟨n, ns, rfl⟩
      have b1 : ∀ fm, fMinX [.dat (.tuple (dI (n :: ns)))] fm = some (.dat (.int (ns.foldl min n)), fm) := fun fm => by unfold fMinX; rw [best_ii]
      have b2 := best_ii max n ns
      refine ⟨[some (.dat (.list rows)), some (.dat (.tuple (dI (col Ls i))))], .dat (hp2 (col Ls i)), rfl, ?_, rfl, rfl⟩
      rw [e]
      generalize PyData.tuple (dI (n :: ns)) = T at b1 b2
      simp [Q3, Qd, Qe, Qf, Qg, Qh, Qi, Qj, Qk, Ql, Qm, Qn, Qo, Qp, Qq, Qr, Qs, Qt, Qu, Qv, Qw, Qx, Q7, Qy, Qz, QA, QB, Q8, Q4, QC, QD, QE, QF, QG, Q9, QH, QI, QJ, Qa, YV, QK, QL, QM, QN, QO, QP, QQ, QR, QS, QT, QU, QV, QW, QX, Q0, QY, QZ, Z0, Z1, Z2, Z3, Z4, Z5, Z6, Z7, Z8, Z9, Za, Zb, Zd, Ze, Zf, Zg, Zh, Zi, Zj, Zk, Zl, Zm, Zn, Zo, Zp, Zq, Zr, Zs, Zt, Zu, Zv, Zw, Q5, Zx, Zy, Zz, ZA, ZB, ZC, ZD, ZE, ZF, Qb, ZG, ZH, ZI, ZJ, ZK, ZL, ZM, Q6, ZN, ZO, ZP, ZQ, ZR, ZS, ZT, ZU, ZV, ZW, ZX, ZY, ZZ, Y0, Y1, Y2, Y3, Y4, Y5, Y6, Y7, Y8, Y9, Ya, Yb, Yc, Yd, Ye, Yf, Yg, Yh, Yi, Yj, Yk, Yl, Ym, Yn, Yo, Yp, Yq, Yr, Ys, Yt, Yu, Yv, Yw, Yx, Yy, Yz, YA, YB, YC, YD, YE, YF, YG, YH, YI, YJ, YK, YL, YM, YN, YO, Q1, Q2, Qc, YQ, YR, YS, YT, YU, frz, frzAll, peek, res1, resAll, stoAll, argOf, argsOf, bors, wback, outAt, outsFrom, ownsStay, retv, wipeF, unwipe, sto, isNone, tyD, cY, cMul, cMod, cDiv, cPow, Cell.dat, b2n, frzS, frzL, fzV, atI, ixN, fMulL, excOf, frzO, -Q6, -Q5, b1, b2, hp2, mn, mx]
  have hl : (hul m Ls).length ≤ 16777216 := by simp [hul]; omega
  generalize hul m Ls = U at lc hl ⊢
  simp [Bhulls, Q3, Qd, Qe, Qf, Qg, Qh, Qi, Qj, Qk, Ql, Qm, Qn, Qo, Qp, Qq, Qr, Qs, Qt, Qu, Qv, Qw, Qx, Q7, Qy, Qz, QA, QB, Q8, Q4, QC, QD, QE, QF, QG, Q9, QH, QI, QJ, Qa, QK, QL, QM, QN, QO, QP, QQ, QR, QS, QT, QU, QV, QW, QX, Q0, QY, QZ, Z0, Z1, Z2, Z3, Z4, Z5, Z6, Z7, Z8, Z9, Za, Zb, Zd, Ze, Zf, Zg, Zh, Zi, Zj, Zk, Zl, Zm, Zn, Zo, Zp, Zq, Zr, Zs, Zt, Zu, Zv, Zw, Q5, Zx, Zy, Zz, ZA, ZB, ZC, ZD, ZE, ZF, Qb, ZG, ZH, ZI, ZJ, ZK, ZL, ZM, Q6, ZN, ZO, ZP, ZQ, ZR, ZS, ZT, ZU, ZV, ZW, ZX, ZY, ZZ, Y0, Y1, Y2, Y3, Y4, Y5, Y6, Y7, Y8, Y9, Ya, Yb, Yc, Yd, Ye, Yf, Yg, Yh, Yi, Yj, Yk, Yl, Ym, Yn, Yo, Yp, Yq, Yr, Ys, Yt, Yu, Yv, Yw, Yx, Yy, Yz, YA, YB, YC, YD, YE, YF, YG, YH, YI, YJ, YK, YL, YM, YN, YO, Q1, Q2, Qc, YQ, YR, YS, YT, YU, frz, frzAll, peek, res1, resAll, stoAll, argOf, argsOf, bors, wback, outAt, outsFrom, ownsStay, retv, wipeF, unwipe, sto, isNone, tyD, cY, cMul, cMod, cDiv, cPow, Cell.dat, b2n, frzS, frzL, fzV, atI, ixN, fMulL, excOf, frzO, lc, hl]
end Rf

namespace Lk21
open PySem PySem.Spec PyProof.Rows L2 Rf
theorem h_Take (n : Nat) : SpTake (D_take (n + 1)) := by rw [e_take]; exact sp_take
theorem h_Same {l b : Nat} (hl : l ≤ 1000000) : ∀ (h n : Nat), SpSame l b h (D_same (n + h + 1))
  | 0, n => by rw [e_same]; exact same_0
  | h + 1, n => by rw [show n + (h + 1) + 1 = (n + h + 1) + 1 by omega, e_same]; exact same_S hl (h_Same hl h n)
theorem h_Lists {l b : Nat} (hl : l ≤ 1000000) : ∀ (h n : Nat), SpLists l b h (D_lists (n + h + 1))
  | 0, n => by rw [e_lists]; exact lists_0
  | h + 1, n => by rw [show n + (h + 1) + 1 = (n + h + 1) + 1 by omega, e_lists]; exact lists_S hl (h_Lists hl h n)
theorem h_Hul (n : Nat) : SpHul (Dhulls (n + 1)) := by rw [ehulls]; exact sp_hul 
theorem h_HulO (n : Nat) : SpHulO (Dhulls (n + 1)) := by rw [ehulls]; exact sp_hulO 
theorem h_Box (n : Nat) : SpBox (D_box (n + 1)) := by rw [e_box]; exact sp_box 
theorem h_Pick (n : Nat) : SpPick (D_pick (n + 2)) := by rw [e_pick]; exact sp_pick (h_Take n)
theorem h_Shuffled (n : Nat) : SpShuffled (D_shuffled (n + 2)) := by rw [e_shuffled]; exact sp_shuffled (h_Take n)
theorem h_Gauges (n : Nat) : SpGauges (D_gauges (n + 3)) := by rw [e_gauges]; exact sp_gauges (h_Pick n) (h_Take (n + 1))
theorem h_Span (n : Nat) : SpSpan (D_span (n + 2)) := by rw [e_span]; exact sp_span (h_Take n)
theorem h_Plant (n : Nat) : SpPlant (D_plant (n + 4)) := by rw [e_plant]; exact sp_plant (h_Take (n + 2)) (h_Gauges n) (h_Shuffled (n + 1)) (h_Span (n + 1))
theorem h_FitsL (n : Nat) : SpFitsL (D_fits (n + 1)) := by rw [e_fits]; exact sp_fitsL 
theorem h_Store (n : Nat) : SpStore (D_store (n + 1)) := by rw [e_store]; exact sp_store 
theorem h_After (n : Nat) : SpAfter (D_after (n + 1)) := by rw [e_after]; exact sp_after 
theorem h_Deals (n : Nat) : SpDeals (D_deals (n + 2)) := by rw [e_deals]; exact sp_deals (h_FitsL n) (h_Store n)
theorem h_Wander (n : Nat) : SpWander (D_wandered (n + 3)) := by rw [e_wandered]; exact sp_wander (h_Deals n) (h_Pick n) (h_After (n + 1))
theorem fm_one {α β : Type} (f : α → β) : ∀ l : List α, (l.flatMap fun a => [f a]) = l.map f
  | [] => rfl
  | a :: l => by rw [List.flatMap_cons, fm_one f l]; rfl
theorem cut_di (Ls : List (List Int)) (h : Ls ≠ []) : Rf.cutD (Ls.map tIs) none (some (-1)) = Ls.dropLast.map tIs := by
  obtain ⟨Ls', la, rfl⟩ : ∃ Ls' la, Ls = Ls' ++ [la] := ⟨_, _, (List.dropLast_concat_getLast h).symm⟩
  have e1 : HT.sIx (Ls'.map tIs ++ [tIs la]).length 0 none = 0 := rfl
  have e2 : HT.sIx (Ls'.map tIs ++ [tIs la]).length (Ls'.map tIs ++ [tIs la]).length (some (-1)) = (Ls'.map tIs).length := by
    simp only [HT.sIx, List.length_append, List.length_cons, List.length_nil]
    rw [if_pos (by omega)]
    omega
  rw [List.map_append, List.dropLast_concat]
  simp only [List.map_cons, List.map_nil, Rf.cutD, e1, e2, List.drop_zero, Nat.sub_zero, List.take_left']
theorem cut_one (Ls : List (List Int)) (h : Ls ≠ []) : Rf.cutD (Ls.map tIs) none (some 1) = (Ls.take 1).map tIs := by
  cases Ls with
  | nil => exact absurd rfl h
  | cons a l =>
    have e1 : HT.sIx ((a :: l).map tIs).length 0 none = 0 := rfl
    have e2 : HT.sIx ((a :: l).map tIs).length ((a :: l).map tIs).length (some 1) = 1 := by
      simp only [HT.sIx, List.map_cons, List.length_cons]
      rw [if_neg (by omega)]
      omega
    simp only [Rf.cutD, e1, e2, List.drop_zero, Nat.sub_zero, ← List.map_take]
theorem col_sub {Ls L2 : List (List Int)} (h : ∀ l ∈ L2, l ∈ Ls) {i : Nat} {x : Int} (m : x ∈ col L2 i) : x ∈ col Ls i := by
  obtain ⟨l, ml, rfl⟩ := List.mem_map.1 m
  exact List.mem_map.2 ⟨l, h l ml, rfl⟩
theorem zip_huls (m : Nat) (Ls L2 : List (List Int)) : zipD [.list (hul m Ls), .tuple (hul m L2)] = some ((List.range m).map fun i => .tuple [hp2 (col Ls i), hp2 (col L2 i)]) := by
  simp only [zipD, allSeq, seqD]
  rw [if_pos ⟨by simp, by simp [hul]⟩, show (hul m Ls).length = m by simp [hul]]
  refine congrArg some (List.map_congr_left fun i hi => ?_)
  have hi := List.mem_range.1 hi
  simp [hul, hi]
theorem hul_one (st : List Int) : hul st.length [st] = st.map fun g => .tuple [.int g, .int g] := by
  refine List.ext_getElem (by simp [hul]) fun i h1 h2 => ?_
  have hi : i < st.length := by simpa [hul] using h1
  simp [hul, hp2, col, mn, mx, hi]
theorem lsD_rows (Ls : List (List Int)) : lsD (.list (Ls.map tIs)) = .list (Ls.map fun l => .list (dI l)) := by
  simp only [lsD, lsA_map, List.map_map, Function.comp_def]
theorem sp_right {P T W Hu L Sm : Dm} (hP : SpPlant P) (hT : SpTake T) (hW : SpWander W) (hHu : SpHul Hu) (hHuO : SpHulO Hu) (hL : SpLists 30 (10 ^ 10) 2 L) (hSm : SpSame 30 (10 ^ 10) 4 Sm) : SpRight 300 (B_rightV21 P T W Hu L Sm) := by
  intro C s hs hC
  have hC' : C + 300 ≤ 100000000 := hC
  obtain ⟨_, _, hp, S, st, s1, rfl, rfl, b1, ok, sd⟩ := hP C 8 12 s hs (by show _ ≤ (100000000 : Int); omega) (by omega) (by omega) (by omega)
  have hp' : P [s, .dat (.int 8), .dat (.int 12)] = some (.dat (.tuple [dShop S, tIs st]), [s1, .dat (.int 8), .dat (.int 12)]) := hp
  clear hp
  have sN := ok.sN
  have rM := ok.rM
  have hl := sd.len
  have l1 : st.length ≤ 8 := by omega
  have sb : ∀ x ∈ st, x.natAbs < 10 ^ 9 := fun x m => by have := ok.sb x (sd.mem x m); omega
  obtain ⟨q0, rfl⟩ := hs.own
  obtain ⟨t, s2, t0, t1, b2, e1⟩ := hT _ 20 s1 b1 (by show _ ≤ (100000000 : Int); omega) (by omega) (by omega)
  obtain ⟨n, rfl⟩ : ∃ n : Nat, t = (n : Nat) := ⟨t.toNat, by omega⟩
  have hn62 : ((n : Nat) : Int) < 4611686018427387904 := by omega
  have hl62 : ((st.length : Nat) : Int) < 4611686018427387904 := by omega
  obtain ⟨q1, rfl⟩ := b1.own
  obtain ⟨q2, rfl⟩ := b2.own
  refine mkD_wp rfl (wp_nx (fm1 := [some (.own (.lst q1)), none, none, none, none, none, some (.dat (dShop S)), some (.dat (tIs st)), none, none, none, none, none, none, none]) (by simp [Q3, Qd, Qe, Qf, Qg, Qh, Qi, Qj, Qk, Ql, Qm, Qn, Qo, Qp, Qq, Qr, Qs, Qt, Qu, Qv, Qw, Qx, Q7, Qy, Qz, QA, QB, Q8, Q4, QC, QD, QE, QF, QG, Q9, QH, QI, QJ, Qa, YV, QK, QL, QM, QN, QO, QP, QQ, QR, QS, QT, QU, QV, QW, QX, Q0, QY, QZ, Z0, Z1, Z2, Z3, Z4, Z5, Z6, Z7, Z8, Z9, Za, Zb, Zd, Ze, Zf, Zg, Zh, Zi, Zj, Zk, Zl, Zm, Zn, Zo, Zp, Zq, Zr, Zs, Zt, Zu, Zv, Zw, Q5, Zx, Zy, Zz, ZA, ZB, ZC, ZD, ZE, ZF, Qb, ZG, ZH, ZI, ZJ, ZK, ZL, ZM, Q6, ZN, ZO, ZP, ZQ, ZR, ZS, ZT, ZU, ZV, ZW, ZX, ZY, ZZ, Y0, Y1, Y2, Y3, Y4, Y5, Y6, Y7, Y8, Y9, Ya, Yb, Yc, Yd, Ye, Yf, Yg, Yh, Yi, Yj, Yk, Yl, Ym, Yn, Yo, Yp, Yq, Yr, Ys, Yt, Yu, Yv, Yw, Yx, Yy, Yz, YA, YB, YC, YD, YE, YF, YG, YH, YI, YJ, YK, YL, YM, YN, YO, Q1, Q2, Qc, YQ, YR, YS, YT, YU, frz, frzAll, peek, res1, resAll, stoAll, argOf, argsOf, bors, wback, outAt, outsFrom, ownsStay, retv, wipeF, unwipe, sto, isNone, tyD, cY, cMul, cMod, cDiv, cPow, Cell.dat, b2n, frzS, frzL, fzV, atI, ixN, fMulL, excOf, frzO, hp', tIs]) (wp_nx (fm1 := [some (.own (.lst q1)), some (.own (.lst ([tIs st]))), none, none, none, none, some (.dat (dShop S)), some (.dat (tIs st)), none, none, none, none, none, none, none]) (by simp [Q3, Qd, Qe, Qf, Qg, Qh, Qi, Qj, Qk, Ql, Qm, Qn, Qo, Qp, Qq, Qr, Qs, Qt, Qu, Qv, Qw, Qx, Q7, Qy, Qz, QA, QB, Q8, Q4, QC, QD, QE, QF, QG, Q9, QH, QI, QJ, Qa, YV, QK, QL, QM, QN, QO, QP, QQ, QR, QS, QT, QU, QV, QW, QX, Q0, QY, QZ, Z0, Z1, Z2, Z3, Z4, Z5, Z6, Z7, Z8, Z9, Za, Zb, Zd, Ze, Zf, Zg, Zh, Zi, Zj, Zk, Zl, Zm, Zn, Zo, Zp, Zq, Zr, Zs, Zt, Zu, Zv, Zw, Q5, Zx, Zy, Zz, ZA, ZB, ZC, ZD, ZE, ZF, Qb, ZG, ZH, ZI, ZJ, ZK, ZL, ZM, Q6, ZN, ZO, ZP, ZQ, ZR, ZS, ZT, ZU, ZV, ZW, ZX, ZY, ZZ, Y0, Y1, Y2, Y3, Y4, Y5, Y6, Y7, Y8, Y9, Ya, Yb, Yc, Yd, Ye, Yf, Yg, Yh, Yi, Yj, Yk, Yl, Ym, Yn, Yo, Yp, Yq, Yr, Ys, Yt, Yu, Yv, Yw, Yx, Yy, Yz, YA, YB, YC, YD, YE, YF, YG, YH, YI, YJ, YK, YL, YM, YN, YO, Q1, Q2, Qc, YQ, YR, YS, YT, YU, frz, frzAll, peek, res1, resAll, stoAll, argOf, argsOf, bors, wback, outAt, outsFrom, ownsStay, retv, wipeF, unwipe, sto, isNone, tyD, cY, cMul, cMod, cDiv, cPow, Cell.dat, b2n, frzS, frzL, fzV, atI, ixN, fMulL, excOf, frzO]) ?_))
  refine wp_seq (wp_for (ds := Rf.intsFrom 0 n) (fm0 := [some (.own (.lst q2)), some (.own (.lst ([tIs st]))), none, none, none, none, some (.dat (dShop S)), some (.dat (tIs st)), none, none, none, none, none, none, none]) (fun k fm => ∃ (x2 : Option S0) (s : S0) (Ls : List (List Int)), fm = [some s, some (.own (.lst (Ls.map tIs))), x2, none, none, none, some (.dat (dShop S)), some (.dat (tIs st)), none, none, none, none, none, none, none] ∧ Bx (C + 101 + 4 * k) s ∧ Ls.length = 1 + k ∧ (∀ l ∈ Ls, l.length = st.length ∧ ∀ x ∈ l, x.natAbs < 10 ^ 9)) (by simp [Q3, Qd, Qe, Qf, Qg, Qh, Qi, Qj, Qk, Ql, Qm, Qn, Qo, Qp, Qq, Qr, Qs, Qt, Qu, Qv, Qw, Qx, Q7, Qy, Qz, QA, QB, Q8, Q4, QC, QD, QE, QF, QG, Q9, QH, QI, QJ, Qa, QK, QL, QM, QN, QO, QP, QQ, QR, QS, QT, QU, QV, QW, QX, Q0, QY, QZ, Z0, Z1, Z2, Z3, Z4, Z5, Z6, Z7, Z8, Z9, Za, Zb, Zd, Ze, Zf, Zg, Zh, Zi, Zj, Zk, Zl, Zm, Zn, Zo, Zp, Zq, Zr, Zs, Zt, Zu, Zv, Zw, Q5, Zx, Zy, Zz, ZA, ZB, ZC, ZD, ZE, ZF, Qb, ZG, ZH, ZI, ZJ, ZK, ZL, ZM, Q6, ZN, ZO, ZP, ZQ, ZR, ZS, ZT, ZU, ZV, ZW, ZX, ZY, ZZ, Y0, Y1, Y2, Y3, Y4, Y5, Y6, Y7, Y8, Y9, Ya, Yb, Yc, Yd, Ye, Yf, Yg, Yh, Yi, Yj, Yk, Yl, Ym, Yn, Yo, Yp, Yq, Yr, Ys, Yt, Yu, Yv, Yw, Yx, Yy, Yz, YA, YB, YC, YD, YE, YF, YG, YH, YI, YJ, YK, YL, YM, YN, YO, Q1, Q2, Qc, YQ, YR, YS, YT, YU, frz, frzAll, peek, res1, resAll, stoAll, argOf, argsOf, bors, wback, outAt, outsFrom, ownsStay, retv, wipeF, unwipe, sto, isNone, tyD, cY, cMul, cMod, cDiv, cPow, Cell.dat, b2n, frzS, frzL, fzV, atI, ixN, fMulL, excOf, frzO, e1, hn62]) ⟨none, _, [st], rfl, b2.mono (by omega), rfl, fun l m => by
    obtain rfl : l = st := by simpa using m
    exact ⟨rfl, sb⟩⟩ ?_ ?_)
  · rintro j d m fm ⟨x2, s, Ls, rfl, n1, n2, n3⟩
    obtain ⟨rfl, hj⟩ := ints_get0 m
    obtain ⟨Ls', la, rfl⟩ : ∃ Ls' la, Ls = Ls' ++ [la] := by
      rcases List.eq_nil_or_concat Ls with rfl | ⟨Ls', la, e⟩
      · exact absurd n2 (by simp; omega)
      · exact ⟨Ls', la, by simpa using e⟩
    obtain ⟨hla, hlb⟩ := n3 la (by simp)
    obtain ⟨u, s3, u0, u1, b3, e2⟩ := hT _ 3 s n1 (by show _ ≤ (100000000 : Int); omega) (by omega) (by omega)
    obtain ⟨k, rfl⟩ : ∃ k : Nat, u = (k : Nat) := ⟨u.toNat, by omega⟩
    obtain ⟨_, _, w1, row, s4, rfl, rfl, b4, hr, hc, hb⟩ := hW _ (1 + k) 8 12 s3 S la b3 (by show _ ≤ (100000000 : Int); omega) (by omega) ok (by omega) (by omega) (by omega)
    have w1' : W [s3, .dat (dShop S), .dat (tIs la), .dat (.int (1 + (k : Nat)))] = some (.dat (.tuple [.list (row.map deD), tIs (aftA la row)]), [s4, .dat (dShop S), .dat (tIs la), .dat (.int (1 + (k : Nat)))]) := by simpa [tIs] using w1
    clear w1
    have hrow : Bd (10 ^ 9) row := fun d m => by have := hb d m; omega
    obtain ⟨k5, _⟩ := aftA_b hrow hlb (by omega) hc
    have li : atI ((Ls' ++ [la]).map tIs) (-1) = some (tIs la) := by rw [List.map_append]; exact at_last _ _
    obtain ⟨q3, rfl⟩ := n1.own
    obtain ⟨q4, rfl⟩ := b3.own
    obtain ⟨q5, rfl⟩ := b4.own
    have z : ((Ls' ++ [la]).map tIs).length < 16777216 := by simp at n2 ⊢; omega
    have lx : ∀ fm : Fm, fm[1]? = some (some (.own (.lst ((Ls' ++ [la]).map tIs)))) → fIx (.bor 1) (.dat (.int (-1))) fm = some (.dat (tIs la), fm) := fun fm hf => by simp only [Q0, peek, hf, Cell.dat, li, Option.map_some]
    have ly : ∀ fm : Fm, fIx (.dat (.tuple [.list (row.map deD), tIs (aftA la row)])) (.dat (.int 1)) fm = some (.dat (tIs (aftA la row)), fm) := fun fm => fIx_of rfl true fm
    refine ⟨_, rfl, wp_is (fl := .nx) (fm' := [some (.own (.lst q5)), some (.own (.lst ((Ls' ++ [la]).map tIs ++ [tIs (aftA la row)]))), some (.dat (.int (j : Nat))), none, none, none, some (.dat (dShop S)), some (.dat (tIs st)), none, none, none, none, none, none, none]) ?_ ⟨rfl, some (.dat (.int (j : Nat))), _, (Ls' ++ [la]) ++ [aftA la row], by simp, b4.mono (by omega), by rw [List.length_append, n2]; simp; omega, fun l m => ?_⟩⟩
    · generalize (Ls' ++ [la]).map tIs = RR at li lx z ⊢
      simp [Q3, Qd, Qe, Qf, Qg, Qh, Qi, Qj, Qk, Ql, Qm, Qn, Qo, Qp, Qq, Qr, Qs, Qt, Qu, Qv, Qw, Qx, Q7, Qy, Qz, QA, QB, Q8, Q4, QC, QD, QE, QF, QG, Q9, QH, QI, QJ, Qa, QK, QL, QM, QN, QO, QP, QQ, QR, QS, QT, QU, QV, QW, QX, Q0, QY, QZ, Z0, Z1, Z2, Z3, Z4, Z5, Z6, Z7, Z8, Z9, Za, Zb, Zd, Ze, Zf, Zg, Zh, Zi, Zj, Zk, Zl, Zm, Zn, Zo, Zp, Zq, Zr, Zs, Zt, Zu, Zv, Zw, Q5, Zx, Zy, Zz, ZA, ZB, ZC, ZD, ZE, ZF, Qb, ZG, ZH, ZI, ZJ, ZK, ZL, ZM, Q6, ZN, ZO, ZP, ZQ, ZR, ZS, ZT, ZU, ZV, ZW, ZX, ZY, ZZ, Y0, Y1, Y2, Y3, Y4, Y5, Y6, Y7, Y8, Y9, Ya, Yb, Yc, Yd, Ye, Yf, Yg, Yh, Yi, Yj, Yk, Yl, Ym, Yn, Yo, Yp, Yq, Yr, Ys, Yt, Yu, Yv, Yw, Yx, Yy, Yz, YA, YB, YC, YD, YE, YF, YG, YH, YI, YJ, YK, YL, YM, YN, YO, Q1, Q2, Qc, YQ, YR, YS, YT, YU, frz, frzAll, peek, res1, resAll, stoAll, argOf, argsOf, bors, wback, outAt, outsFrom, ownsStay, retv, wipeF, unwipe, sto, isNone, tyD, cY, cMul, cMod, cDiv, cPow, Cell.dat, b2n, frzS, frzL, fzV, atI, ixN, fMulL, excOf, frzO, -Q0, lx, ly, e2, w1', z]
    · rcases List.mem_append.1 m with m | m
      · exact n3 l m
      · obtain rfl : l = aftA la row := by simpa using m
        exact ⟨by rw [aftA_len]; exact hla, k5⟩
  rintro fm' ⟨x2, s, Ls, rfl, n1, n2, n3⟩
  rw [ints_len] at n1 n2
  obtain ⟨q, rfl⟩ := n1.own
  refine ⟨rfl, ?_⟩
  have h0 : Ls ≠ [] := fun e => by rw [e] at n2; simp at n2; omega
  have h21 : Ls.length ≤ 20 := by omega
  have hm : ∀ l ∈ Ls, l.length = st.length := fun l m => (n3 l m).1
  have oR : Ok 30 (10 ^ 10) 2 (.list (Ls.map tIs)) := ⟨by simp; omega, fun x m => by
    obtain ⟨l, ml, rfl⟩ := List.mem_map.1 m
    exact ok_is (h := 0) (by rw [hm l ml]; omega) fun x mx => by have := (n3 l ml).2 x mx; omega⟩
  have hrep : okRepr (.list (Ls.map tIs)) = true := by
    refine oR.repr (by decide) (by omega) ?_
    have hsz : ∀ x ∈ Ls.map tIs, sz x ≤ 600 := fun x m => by
      obtain ⟨l, ml, rfl⟩ := List.mem_map.1 m
      have := sz_dI l
      have h8 := hm l ml
      show sz (.tuple (dI l)) ≤ 600
      rw [sz_tup]; omega
    have := szA_le hsz
    have h2 : (Ls.map tIs).length * (600 + 2) ≤ 20 * 602 := Nat.mul_le_mul_right _ (by simpa using h21)
    rw [sz_list]; omega
  obtain ⟨kept, hkept⟩ : ∃ k, k = (PyData.list (Ls.map tIs)).shown := ⟨_, rfl⟩
  refine wp_gh (fm1 := [some (.own (.lst q)), some (.own (.lst (Ls.map tIs))), x2, none, none, none, some (.dat (dShop S)), some (.dat (tIs st)), some (.dat (.str kept)), some (.own (.lst ([]))), none, none, none, none, none]) (by simp [Q3, Qd, Qe, Qf, Qg, Qh, Qi, Qj, Qk, Ql, Qm, Qn, Qo, Qp, Qq, Qr, Qs, Qt, Qu, Qv, Qw, Qx, Q7, Qy, Qz, QA, QB, Q8, Q4, QC, QD, QE, QF, QG, Q9, QH, QI, QJ, Qa, YV, QK, QL, QM, QN, QO, QP, QQ, QR, QS, QT, QU, QV, QW, QX, Q0, QY, QZ, Z0, Z1, Z2, Z3, Z4, Z5, Z6, Z7, Z8, Z9, Za, Zb, Zd, Ze, Zf, Zg, Zh, Zi, Zj, Zk, Zl, Zm, Zn, Zo, Zp, Zq, Zr, Zs, Zt, Zu, Zv, Zw, Q5, Zx, Zy, Zz, ZA, ZB, ZC, ZD, ZE, ZF, Qb, ZG, ZH, ZI, ZJ, ZK, ZL, ZM, Q6, ZN, ZO, ZP, ZQ, ZR, ZS, ZT, ZU, ZV, ZW, ZX, ZY, ZZ, Y0, Y1, Y2, Y3, Y4, Y5, Y6, Y7, Y8, Y9, Ya, Yb, Yc, Yd, Ye, Yf, Yg, Yh, Yi, Yj, Yk, Yl, Ym, Yn, Yo, Yp, Yq, Yr, Ys, Yt, Yu, Yv, Yw, Yx, Yy, Yz, YA, YB, YC, YD, YE, YF, YG, YH, YI, YJ, YK, YL, YM, YN, YO, Q1, Q2, Qc, YQ, YR, YS, YT, YU, frz, frzAll, peek, res1, resAll, stoAll, argOf, argsOf, bors, wback, outAt, outsFrom, ownsStay, retv, wipeF, unwipe, sto, isNone, tyD, cY, cMul, cMod, cDiv, cPow, Cell.dat, b2n, frzS, frzL, fzV, atI, ixN, fMulL, excOf, frzO, hrep, ← hkept]) ?_
  rw [show frzL [8] [some (.own (.lst q)), some (.own (.lst (Ls.map tIs))), x2, none, none, none, some (.dat (dShop S)), some (.dat (tIs st)), some (.dat (.str kept)), some (.own (.lst ([]))), none, none, none, none, none] = [some (.own (.lst q)), some (.own (.lst (Ls.map tIs))), x2, none, none, none, some (.dat (dShop S)), some (.dat (tIs st)), some (.dat (.str kept)), some (.own (.lst ([]))), none, none, none, none, none] from rfl]
  refine wp_seq (wp_acc (X := Bool × Option S0 × Option S0) (fun i : Nat => PyData.int (i : Nat)) (fun i : Nat => [hp2 (col Ls i)]) (fun x acc => [some (.own (.lst q)), (if x.1 = true then some (.dat (.list (Ls.map tIs))) else some (.own (.lst (Ls.map tIs)))), x2, x.2.1, none, none, some (.dat (dShop S)), some (.dat (tIs st)), some (.dat (.str kept)), some (.own (.lst (acc))), x.2.2, none, none, none, none]) (List.range st.length) [] (false, none, none) ?_ ?_ ?_)
  · simp [Q3, Qd, Qe, Qf, Qg, Qh, Qi, Qj, Qk, Ql, Qm, Qn, Qo, Qp, Qq, Qr, Qs, Qt, Qu, Qv, Qw, Qx, Q7, Qy, Qz, QA, QB, Q8, Q4, QC, QD, QE, QF, QG, Q9, QH, QI, QJ, Qa, YV, QK, QL, QM, QN, QO, QP, QQ, QR, QS, QT, QU, QV, QW, QX, Q0, QY, QZ, Z0, Z1, Z2, Z3, Z4, Z5, Z6, Z7, Z8, Z9, Za, Zb, Zd, Ze, Zf, Zg, Zh, Zi, Zj, Zk, Zl, Zm, Zn, Zo, Zp, Zq, Zr, Zs, Zt, Zu, Zv, Zw, Q5, Zx, Zy, Zz, ZA, ZB, ZC, ZD, ZE, ZF, Qb, ZG, ZH, ZI, ZJ, ZK, ZL, ZM, Q6, ZN, ZO, ZP, ZQ, ZR, ZS, ZT, ZU, ZV, ZW, ZX, ZY, ZZ, Y0, Y1, Y2, Y3, Y4, Y5, Y6, Y7, Y8, Y9, Ya, Yb, Yc, Yd, Ye, Yf, Yg, Yh, Yi, Yj, Yk, Yl, Ym, Yn, Yo, Yp, Yq, Yr, Ys, Yt, Yu, Yv, Yw, Yx, Yy, Yz, YA, YB, YC, YD, YE, YF, YG, YH, YI, YJ, YK, YL, YM, YN, YO, Q1, Q2, Qc, YQ, YR, YS, YT, YU, frz, frzAll, peek, res1, resAll, stoAll, argOf, argsOf, bors, wback, outAt, outsFrom, ownsStay, retv, wipeF, unwipe, sto, isNone, tyD, cY, cMul, cMod, cDiv, cPow, Cell.dat, b2n, frzS, frzL, fzV, atI, ixN, fMulL, excOf, frzO, Rf.intsFrom, tIs, hl62]
  · rintro i hi acc ⟨b, x3, x10⟩ hacc
    have hi := List.mem_range.1 hi
    rw [fm_one] at hacc
    simp only [List.length_cons, List.length_nil, List.length_map, List.length_range] at hacc
    have za : acc.length < 16777216 := by omega
    have ix : ∀ l ∈ Ls, ∀ fm : Fm, fIx (.dat (tIs l)) (.dat (.int (i : Nat))) fm = some (.dat (.int ((l[i]?).getD 0)), fm) := fun l ml fm => by
      have h1 := hm l ml
      have := at_gI (st := l) (i := (i : Nat)) (by omega) (by omega)
      rw [show gI l (i : Nat) = (l[i]?).getD 0 by simp [gI]] at this
      exact fIx_of this true fm
    have lc : mLc 15 (iSeq (mVar 1)) (gSet 11) mYes (m2 fIx (mVar 11) (mVar 3)) [11] [some (.own (.lst q)), (if b = true then some (.dat (.list (Ls.map tIs))) else some (.own (.lst (Ls.map tIs)))), x2, some (.dat (.int (i : Nat))), none, none, some (.dat (dShop S)), some (.dat (tIs st)), some (.dat (.str kept)), some (.own (.lst (acc))), x10, none, none, none, none] = some (.fre (.lst (dI (col Ls i))), [some (.own (.lst q)), some (.dat (.list (Ls.map tIs))), x2, some (.dat (.int (i : Nat))), none, none, some (.dat (dShop S)), some (.dat (tIs st)), some (.dat (.str kept)), some (.own (.lst (acc))), x10, none, none, none, none]) := by
      rw [show dI (col Ls i) = Ls.map fun l => PyData.int ((l[i]?).getD 0) by simp [dI, col, List.map_map, Function.comp_def]]
      refine lc_all tIs (fun l => PyData.int ((l[i]?).getD 0)) Ls (fm1 := [some (.own (.lst q)), some (.dat (.list (Ls.map tIs))), x2, some (.dat (.int (i : Nat))), none, none, some (.dat (dShop S)), some (.dat (tIs st)), some (.dat (.str kept)), some (.own (.lst (acc))), x10, none, none, none, none]) (fmw := [some (.own (.lst q)), some (.dat (.list (Ls.map tIs))), x2, some (.dat (.int (i : Nat))), none, none, some (.dat (dShop S)), some (.dat (tIs st)), some (.dat (.str kept)), some (.own (.lst (acc))), x10, none, none, none, none]) ?_ ?_ ?_ ?_ ?_ ?_
      · cases b <;> simp [Q3, Qd, Qe, Qf, Qg, Qh, Qi, Qj, Qk, Ql, Qm, Qn, Qo, Qp, Qq, Qr, Qs, Qt, Qu, Qv, Qw, Qx, Q7, Qy, Qz, QA, QB, Q8, Q4, QC, QD, QE, QF, QG, Q9, QH, QI, QJ, Qa, QK, QL, QM, QN, QO, QP, QQ, QR, QS, QT, QU, QV, QW, QX, Q0, QY, QZ, Z0, Z1, Z2, Z3, Z4, Z5, Z6, Z7, Z8, Z9, Za, Zb, Zd, Ze, Zf, Zg, Zh, Zi, Zj, Zk, Zl, Zm, Zn, Zo, Zp, Zq, Zr, Zs, Zt, Zu, Zv, Zw, Q5, Zx, Zy, Zz, ZA, ZB, ZC, ZD, ZE, ZF, Qb, ZG, ZH, ZI, ZJ, ZK, ZL, ZM, Q6, ZN, ZO, ZP, ZQ, ZR, ZS, ZT, ZU, ZV, ZW, ZX, ZY, ZZ, Y0, Y1, Y2, Y3, Y4, Y5, Y6, Y7, Y8, Y9, Ya, Yb, Yc, Yd, Ye, Yf, Yg, Yh, Yi, Yj, Yk, Yl, Ym, Yn, Yo, Yp, Yq, Yr, Ys, Yt, Yu, Yv, Yw, Yx, Yy, Yz, YA, YB, YC, YD, YE, YF, YG, YH, YI, YJ, YK, YL, YM, YN, YO, Q1, Q2, Qc, YQ, YR, YS, YT, YU, frz, frzAll, peek, res1, resAll, stoAll, argOf, argsOf, bors, wback, outAt, outsFrom, ownsStay, retv, wipeF, unwipe, sto, isNone, tyD, cY, cMul, cMod, cDiv, cPow, Cell.dat, b2n, frzS, frzL, fzV, atI, ixN, fMulL, excOf, frzO]
      · simp
      · rfl
      · rfl
      · omega
      · intro l ml
        have ixl := ix l ml
        exact ⟨_, _, rfl, by simp [Q3, Qd, Qe, Qf, Qg, Qh, Qi, Qj, Qk, Ql, Qm, Qn, Qo, Qp, Qq, Qr, Qs, Qt, Qu, Qv, Qw, Qx, Q7, Qy, Qz, QA, QB, Q8, Q4, QC, QD, QE, QF, QG, Q9, QH, QI, QJ, Qa, QK, QL, QM, QN, QO, QP, QQ, QR, QS, QT, QU, QV, QW, QX, Q0, QY, QZ, Z0, Z1, Z2, Z3, Z4, Z5, Z6, Z7, Z8, Z9, Za, Zb, Zd, Ze, Zf, Zg, Zh, Zi, Zj, Zk, Zl, Zm, Zn, Zo, Zp, Zq, Zr, Zs, Zt, Zu, Zv, Zw, Q5, Zx, Zy, Zz, ZA, ZB, ZC, ZD, ZE, ZF, Qb, ZG, ZH, ZI, ZJ, ZK, ZL, ZM, Q6, ZN, ZO, ZP, ZQ, ZR, ZS, ZT, ZU, ZV, ZW, ZX, ZY, ZZ, Y0, Y1, Y2, Y3, Y4, Y5, Y6, Y7, Y8, Y9, Ya, Yb, Yc, Yd, Ye, Yf, Yg, Yh, Yi, Yj, Yk, Yl, Ym, Yn, Yo, Yp, Yq, Yr, Ys, Yt, Yu, Yv, Yw, Yx, Yy, Yz, YA, YB, YC, YD, YE, YF, YG, YH, YI, YJ, YK, YL, YM, YN, YO, Q1, Q2, Qc, YQ, YR, YS, YT, YU, frz, frzAll, peek, res1, resAll, stoAll, argOf, argsOf, bors, wback, outAt, outsFrom, ownsStay, retv, wipeF, unwipe, sto, isNone, tyD, cY, cMul, cMod, cDiv, cPow, Cell.dat, b2n, frzS, frzL, fzV, atI, ixN, fMulL, excOf, frzO, -Q0, ixl]; (try first | rfl | exact ⟨rfl, rfl⟩ | exact ⟨rfl, rfl, rfl⟩ | exact ⟨rfl, rfl, rfl, rfl⟩ | exact ⟨rfl, rfl, rfl, rfl, rfl⟩), rfl, rfl⟩
    obtain ⟨a, m, z, s1, s2, rfl, rfl⟩ := sort_ends (col_ne (i := i) h0)
    have hi1 : intsD (dI (col Ls i)) = some (col Ls i) := intsD_map _
    have y0 : ∀ fm : Fm, fIx (.dat (.list (dI (sortI (col Ls i))))) (.dat (.int 0)) fm = some (.dat (.int (mn (col Ls i))), fm) := fun fm => by
      rw [s1]; exact fIx_of (ds := dI (mn (col Ls i) :: m)) (by simp [dI, atI, ixN]) false fm
    have y1 : ∀ fm : Fm, fIx (.dat (.list (dI (sortI (col Ls i))))) (.dat (.int (-1))) fm = some (.dat (.int (mx (col Ls i))), fm) := fun fm => by
      obtain ⟨ys, hys⟩ := List.getLast?_eq_some_iff.1 s2
      rw [hys, show dI (ys ++ [mx (col Ls i)]) = dI ys ++ [.int (mx (col Ls i))] by simp [dI]]
      exact fIx_of (at_last _ _) false fm
    refine ⟨[some (.own (.lst q)), (if b = true then some (.dat (.list (Ls.map tIs))) else some (.own (.lst (Ls.map tIs)))), x2, some (.dat (.int (i : Nat))), none, none, some (.dat (dShop S)), some (.dat (tIs st)), some (.dat (.str kept)), some (.own (.lst (acc))), x10, none, none, none, none], rfl, ?_⟩
    refine wp_gh (fm1 := [some (.own (.lst q)), some (.dat (.list (Ls.map tIs))), x2, some (.dat (.int (i : Nat))), none, none, some (.dat (dShop S)), some (.dat (tIs st)), some (.dat (.str kept)), some (.own (.lst (acc))), some (.own (.lst (dI (sortI (col Ls i))))), none, none, none, none]) ?_ ?_
    · generalize dI (col Ls i) = Z at lc hi1
      simp [Q3, Qd, Qe, Qf, Qg, Qh, Qi, Qj, Qk, Ql, Qm, Qn, Qo, Qp, Qq, Qr, Qs, Qt, Qu, Qv, Qw, Qx, Q7, Qy, Qz, QA, QB, Q8, Q4, QC, QD, QE, QF, QG, Q9, QH, QI, QJ, Qa, QK, QL, QM, QN, QO, QP, QQ, QR, QS, QT, QU, QV, QW, QX, Q0, QY, QZ, Z0, Z1, Z2, Z3, Z4, Z5, Z6, Z7, Z8, Z9, Za, Zb, Zd, Ze, Zf, Zg, Zh, Zi, Zj, Zk, Zl, Zm, Zn, Zo, Zp, Zq, Zr, Zs, Zt, Zu, Zv, Zw, Q5, Zx, Zy, Zz, ZA, ZB, ZC, ZD, ZE, ZF, Qb, ZG, ZH, ZI, ZJ, ZK, ZL, ZM, Q6, ZN, ZO, ZP, ZQ, ZR, ZS, ZT, ZU, ZV, ZW, ZX, ZY, ZZ, Y0, Y1, Y2, Y3, Y4, Y5, Y6, Y7, Y8, Y9, Ya, Yb, Yc, Yd, Ye, Yf, Yg, Yh, Yi, Yj, Yk, Yl, Ym, Yn, Yo, Yp, Yq, Yr, Ys, Yt, Yu, Yv, Yw, Yx, Yy, Yz, YA, YB, YC, YD, YE, YF, YG, YH, YI, YJ, YK, YL, YM, YN, YO, Q1, Q2, Qc, YQ, YR, YS, YT, YU, frz, frzAll, peek, res1, resAll, stoAll, argOf, argsOf, bors, wback, outAt, outsFrom, ownsStay, retv, wipeF, unwipe, sto, isNone, tyD, cY, cMul, cMod, cDiv, cPow, Cell.dat, b2n, frzS, frzL, fzV, atI, ixN, fMulL, excOf, frzO, lc, hi1, dI]
    rw [show frzL [10] [some (.own (.lst q)), some (.dat (.list (Ls.map tIs))), x2, some (.dat (.int (i : Nat))), none, none, some (.dat (dShop S)), some (.dat (tIs st)), some (.dat (.str kept)), some (.own (.lst (acc))), some (.own (.lst (dI (sortI (col Ls i))))), none, none, none, none] = [some (.own (.lst q)), some (.dat (.list (Ls.map tIs))), x2, some (.dat (.int (i : Nat))), none, none, some (.dat (dShop S)), some (.dat (tIs st)), some (.dat (.str kept)), some (.own (.lst (acc))), some (.dat (.list (dI (sortI (col Ls i))))), none, none, none, none] from rfl]
    refine wp_is (fl := .nx) (fm' := [some (.own (.lst q)), some (.dat (.list (Ls.map tIs))), x2, some (.dat (.int (i : Nat))), none, none, some (.dat (dShop S)), some (.dat (tIs st)), some (.dat (.str kept)), some (.own (.lst (acc ++ [hp2 (col Ls i)]))), some (.dat (.list (dI (sortI (col Ls i))))), none, none, none, none]) ?_ ⟨rfl, (true, some (.dat (.int (i : Nat))), some (.dat (.list (dI (sortI (col Ls i)))))), rfl⟩
    clear lc hi1 s1 s2
    generalize dI (sortI (col Ls i)) = Z at y0 y1 ⊢
    simp [Q3, Qd, Qe, Qf, Qg, Qh, Qi, Qj, Qk, Ql, Qm, Qn, Qo, Qp, Qq, Qr, Qs, Qt, Qu, Qv, Qw, Qx, Q7, Qy, Qz, QA, QB, Q8, Q4, QC, QD, QE, QF, QG, Q9, QH, QI, QJ, Qa, QK, QL, QM, QN, QO, QP, QQ, QR, QS, QT, QU, QV, QW, QX, Q0, QY, QZ, Z0, Z1, Z2, Z3, Z4, Z5, Z6, Z7, Z8, Z9, Za, Zb, Zd, Ze, Zf, Zg, Zh, Zi, Zj, Zk, Zl, Zm, Zn, Zo, Zp, Zq, Zr, Zs, Zt, Zu, Zv, Zw, Q5, Zx, Zy, Zz, ZA, ZB, ZC, ZD, ZE, ZF, Qb, ZG, ZH, ZI, ZJ, ZK, ZL, ZM, Q6, ZN, ZO, ZP, ZQ, ZR, ZS, ZT, ZU, ZV, ZW, ZX, ZY, ZZ, Y0, Y1, Y2, Y3, Y4, Y5, Y6, Y7, Y8, Y9, Ya, Yb, Yc, Yd, Ye, Yf, Yg, Yh, Yi, Yj, Yk, Yl, Ym, Yn, Yo, Yp, Yq, Yr, Ys, Yt, Yu, Yv, Yw, Yx, Yy, Yz, YA, YB, YC, YD, YE, YF, YG, YH, YI, YJ, YK, YL, YM, YN, YO, Q1, Q2, Qc, YQ, YR, YS, YT, YU, frz, frzAll, peek, res1, resAll, stoAll, argOf, argsOf, bors, wback, outAt, outsFrom, ownsStay, retv, wipeF, unwipe, sto, isNone, tyD, cY, cMul, cMod, cDiv, cPow, Cell.dat, b2n, frzS, frzL, fzV, atI, ixN, fMulL, excOf, frzO, -Q0, y0, y1, za, hp2]
  rintro ⟨b, x3, x10⟩
  refine ⟨rfl, ?_⟩
  rw [List.nil_append, fm_one, show (List.range st.length).map (fun i => hp2 (col Ls i)) = hul st.length Ls from rfl]
  have u1 : Hu [.dat (.list (Ls.map tIs))] = some (.dat (.tuple (hul st.length Ls)), [.dat (.list (Ls.map tIs))]) := hHu false true st.length Ls h0 (by omega) hm (by omega)
  have u0 : Hu [.own (.lst (Ls.map tIs))] = some (.dat (.tuple (hul st.length Ls)), [.dat (.list (Ls.map tIs))]) := hHuO true st.length Ls h0 (by omega) hm (by omega)
  have u2 : Hu [.dat (.tuple (Ls.map fun l => .list (dI l)))] = some (.dat (.tuple (hul st.length Ls)), [.dat (.tuple (Ls.map fun l => .list (dI l)))]) := hHu true false st.length Ls h0 (by omega) hm (by omega)
  obtain ⟨v, v1, v2⟩ := hL (.list (Ls.map tIs)) oR
  rw [lsD_rows] at v2
  have oP : ∀ L' : List (List Int), L' ≠ [] → (∀ l ∈ L', l ∈ Ls) → ∀ i, Ok 30 (10 ^ 10) 1 (hp2 (col L' i)) := fun L' hne hs i => by
    have hb : ∀ x ∈ col L' i, x.natAbs < 10 ^ 10 := fun x mx => by
      obtain ⟨l, ml, rfl⟩ := List.mem_map.1 mx
      cases hg : l[i]? with
      | none => simp
      | some y => have := (n3 l (hs l ml)).2 y (List.mem_of_getElem? hg); simp; omega
    exact ⟨by simp, fun x mx => by
      simp only [List.mem_cons, List.not_mem_nil, or_false] at mx
      rcases mx with rfl | rfl
      · exact hb _ (mn_mem (col_ne hne))
      · exact hb _ (mx_mem (col_ne hne))⟩
  have oU : Ok 30 (10 ^ 10) 2 (.tuple (hul st.length Ls)) := ⟨by simp [hul]; omega, fun x mx => by
    obtain ⟨i, _, rfl⟩ := List.mem_map.1 mx
    exact oP Ls h0 (fun _ h => h) i⟩
  have lU : (hul st.length Ls).length = st.length := by simp [hul]
  obtain ⟨oo, sm⟩ := hSm (.list [.tuple (hul st.length Ls), .tuple (hul st.length Ls)]) (.dat (.list [.tuple (hul st.length Ls), .tuple (hul st.length Ls)])) (.dat (.list [.tuple (hul st.length Ls), .tuple (hul st.length Ls)])) (Ok.mono (Nat.le_refl _) (Nat.le_refl _) (by omega) (ok_lst (h := 2) (by omega) oU oU)) (.inl rfl) (.inl rfl)
  refine wp_gh (fm1 := [some (.own (.lst q)), some (.dat (.list (Ls.map tIs))), x2, x3, some (.own (.lst ([.tuple (hul st.length Ls), .tuple (hul st.length Ls)]))), none, some (.dat (dShop S)), some (.dat (tIs st)), some (.dat (.str kept)), some (.own (.lst (hul st.length Ls))), x10, none, none, none, none]) ?_ ?_
  · have l1 : (Ls.map fun l => PyData.list (dI l)).length ≤ 16777216 := by simp; omega
    generalize hul st.length Ls = U at u0 u1 u2
    generalize (Ls.map fun l => PyData.list (dI l)) = Z at u2 v2 l1
    generalize Ls.map tIs = RR at u0 u1 v1
    rcases v2 with rfl | ⟨ds, rfl, e⟩
    · cases b <;> simp [Q3, Qd, Qe, Qf, Qg, Qh, Qi, Qj, Qk, Ql, Qm, Qn, Qo, Qp, Qq, Qr, Qs, Qt, Qu, Qv, Qw, Qx, Q7, Qy, Qz, QA, QB, Q8, Q4, QC, QD, QE, QF, QG, Q9, QH, QI, QJ, Qa, QK, QL, QM, QN, QO, QP, QQ, QR, QS, QT, QU, QV, QW, QX, Q0, QY, QZ, Z0, Z1, Z2, Z3, Z4, Z5, Z6, Z7, Z8, Z9, Za, Zb, Zd, Ze, Zf, Zg, Zh, Zi, Zj, Zk, Zl, Zm, Zn, Zo, Zp, Zq, Zr, Zs, Zt, Zu, Zv, Zw, Q5, Zx, Zy, Zz, ZA, ZB, ZC, ZD, ZE, ZF, Qb, ZG, ZH, ZI, ZJ, ZK, ZL, ZM, Q6, ZN, ZO, ZP, ZQ, ZR, ZS, ZT, ZU, ZV, ZW, ZX, ZY, ZZ, Y0, Y1, Y2, Y3, Y4, Y5, Y6, Y7, Y8, Y9, Ya, Yb, Yc, Yd, Ye, Yf, Yg, Yh, Yi, Yj, Yk, Yl, Ym, Yn, Yo, Yp, Yq, Yr, Ys, Yt, Yu, Yv, Yw, Yx, Yy, Yz, YA, YB, YC, YD, YE, YF, YG, YH, YI, YJ, YK, YL, YM, YN, YO, Q1, Q2, Qc, YQ, YR, YS, YT, YU, frz, frzAll, peek, res1, resAll, stoAll, argOf, argsOf, bors, wback, outAt, outsFrom, ownsStay, retv, wipeF, unwipe, sto, isNone, tyD, cY, cMul, cMod, cDiv, cPow, Cell.dat, b2n, frzS, frzL, fzV, atI, ixN, fMulL, excOf, frzO, u0, u1, v1, u2, okPm, permL, wback_d1, l1]
    · cases e
      cases b <;> simp [Q3, Qd, Qe, Qf, Qg, Qh, Qi, Qj, Qk, Ql, Qm, Qn, Qo, Qp, Qq, Qr, Qs, Qt, Qu, Qv, Qw, Qx, Q7, Qy, Qz, QA, QB, Q8, Q4, QC, QD, QE, QF, QG, Q9, QH, QI, QJ, Qa, QK, QL, QM, QN, QO, QP, QQ, QR, QS, QT, QU, QV, QW, QX, Q0, QY, QZ, Z0, Z1, Z2, Z3, Z4, Z5, Z6, Z7, Z8, Z9, Za, Zb, Zd, Ze, Zf, Zg, Zh, Zi, Zj, Zk, Zl, Zm, Zn, Zo, Zp, Zq, Zr, Zs, Zt, Zu, Zv, Zw, Q5, Zx, Zy, Zz, ZA, ZB, ZC, ZD, ZE, ZF, Qb, ZG, ZH, ZI, ZJ, ZK, ZL, ZM, Q6, ZN, ZO, ZP, ZQ, ZR, ZS, ZT, ZU, ZV, ZW, ZX, ZY, ZZ, Y0, Y1, Y2, Y3, Y4, Y5, Y6, Y7, Y8, Y9, Ya, Yb, Yc, Yd, Ye, Yf, Yg, Yh, Yi, Yj, Yk, Yl, Ym, Yn, Yo, Yp, Yq, Yr, Ys, Yt, Yu, Yv, Yw, Yx, Yy, Yz, YA, YB, YC, YD, YE, YF, YG, YH, YI, YJ, YK, YL, YM, YN, YO, Q1, Q2, Qc, YQ, YR, YS, YT, YU, frz, frzAll, peek, res1, resAll, stoAll, argOf, argsOf, bors, wback, outAt, outsFrom, ownsStay, retv, wipeF, unwipe, sto, isNone, tyD, cY, cMul, cMod, cDiv, cPow, Cell.dat, b2n, frzS, frzL, fzV, atI, ixN, fMulL, excOf, frzO, u0, u1, v1, u2, okPm, permL, wback_d1, l1]
  rw [show frzL [4] [some (.own (.lst q)), some (.dat (.list (Ls.map tIs))), x2, x3, some (.own (.lst ([.tuple (hul st.length Ls), .tuple (hul st.length Ls)]))), none, some (.dat (dShop S)), some (.dat (tIs st)), some (.dat (.str kept)), some (.own (.lst (hul st.length Ls))), x10, none, none, none, none] = [some (.own (.lst q)), some (.dat (.list (Ls.map tIs))), x2, x3, some (.dat (.list [.tuple (hul st.length Ls), .tuple (hul st.length Ls)])), none, some (.dat (dShop S)), some (.dat (tIs st)), some (.dat (.str kept)), some (.own (.lst (hul st.length Ls))), x10, none, none, none, none] from rfl]
  refine wp_nx (fm1 := [some (.own (.lst q)), some (.dat (.list (Ls.map tIs))), x2, x3, some (.dat (.list [.tuple (hul st.length Ls), .tuple (hul st.length Ls)])), none, some (.dat (dShop S)), some (.dat (tIs st)), some (.dat (.str kept)), some (.own (.lst (hul st.length Ls))), x10, none, none, none, none]) ?_ ?_
  · have ll : (hul st.length Ls).length ≤ 16777216 := by omega
    generalize hul st.length Ls = U at sm ll
    generalize Ls.map tIs = RR at hrep hkept
    simp [Q3, Qd, Qe, Qf, Qg, Qh, Qi, Qj, Qk, Ql, Qm, Qn, Qo, Qp, Qq, Qr, Qs, Qt, Qu, Qv, Qw, Qx, Q7, Qy, Qz, QA, QB, Q8, Q4, QC, QD, QE, QF, QG, Q9, QH, QI, QJ, Qa, QK, QL, QM, QN, QO, QP, QQ, QR, QS, QT, QU, QV, QW, QX, Q0, QY, QZ, Z0, Z1, Z2, Z3, Z4, Z5, Z6, Z7, Z8, Z9, Za, Zb, Zd, Ze, Zf, Zg, Zh, Zi, Zj, Zk, Zl, Zm, Zn, Zo, Zp, Zq, Zr, Zs, Zt, Zu, Zv, Zw, Q5, Zx, Zy, Zz, ZA, ZB, ZC, ZD, ZE, ZF, Qb, ZG, ZH, ZI, ZJ, ZK, ZL, ZM, Q6, ZN, ZO, ZP, ZQ, ZR, ZS, ZT, ZU, ZV, ZW, ZX, ZY, ZZ, Y0, Y1, Y2, Y3, Y4, Y5, Y6, Y7, Y8, Y9, Ya, Yb, Yc, Yd, Ye, Yf, Yg, Yh, Yi, Yj, Yk, Yl, Ym, Yn, Yo, Yp, Yq, Yr, Ys, Yt, Yu, Yv, Yw, Yx, Yy, Yz, YA, YB, YC, YD, YE, YF, YG, YH, YI, YJ, YK, YL, YM, YN, YO, Q1, Q2, Qc, YQ, YR, YS, YT, YU, frz, frzAll, peek, res1, resAll, stoAll, argOf, argsOf, bors, wback, outAt, outsFrom, ownsStay, retv, wipeF, unwipe, sto, isNone, tyD, cY, cMul, cMod, cDiv, cPow, Cell.dat, b2n, frzS, frzL, fzV, atI, ixN, fMulL, excOf, frzO, sm, hrep, ← hkept, repD, ll, wback_d2]
  have hc1 := cut_di Ls h0
  have hc2 := cut_one Ls h0
  obtain ⟨L2, hL2⟩ : ∃ L2, L2 = Ls.dropLast ++ Ls.take 1 := ⟨_, rfl⟩
  have h2s : ∀ l ∈ L2, l ∈ Ls := fun l m => by
    rw [hL2] at m
    rcases List.mem_append.1 m with m | m
    · exact List.dropLast_subset _ m
    · exact List.mem_of_mem_take m
  have h20 : L2 ≠ [] := fun e => by
    rw [hL2] at e
    have := (List.append_eq_nil_iff.1 e).2
    cases Ls with
    | nil => exact h0 rfl
    | cons a l => simp at this
  have l20 : L2.length ≤ 21 := by rw [hL2]; simp; omega
  have hm2 : ∀ l ∈ L2, l.length = st.length := fun l m => hm l (h2s l m)
  have eL : Ls.dropLast.map tIs ++ (Ls.take 1).map tIs = L2.map tIs := by rw [hL2, List.map_append]
  have lle : (Ls.dropLast.map tIs).length + ((Ls.take 1).map tIs).length ≤ 16777216 := by simp; omega
  have w2 : Hu [.dat (.list (L2.map tIs))] = some (.dat (.tuple (hul st.length L2)), [.dat (.list (L2.map tIs))]) := hHu false true st.length L2 h20 (by omega) hm2 (by omega)
  refine wp_gh (fm1 := [some (.own (.lst q)), some (.dat (.list (Ls.map tIs))), x2, x3, some (.dat (.list [.tuple (hul st.length Ls), .tuple (hul st.length Ls)])), some (.dat (.tuple (hul st.length L2))), some (.dat (dShop S)), some (.dat (tIs st)), some (.dat (.str kept)), some (.own (.lst (hul st.length Ls))), x10, none, none, none, none]) ?_ ?_
  · generalize L2.map tIs = R2 at w2 eL
    generalize Ls.dropLast.map tIs = Ra at hc1 eL lle
    generalize (Ls.take 1).map tIs = Rb at hc2 eL lle
    generalize Ls.map tIs = RR at hc1 hc2
    subst eL
    simp [Q3, Qd, Qe, Qf, Qg, Qh, Qi, Qj, Qk, Ql, Qm, Qn, Qo, Qp, Qq, Qr, Qs, Qt, Qu, Qv, Qw, Qx, Q7, Qy, Qz, QA, QB, Q8, Q4, QC, QD, QE, QF, QG, Q9, QH, QI, QJ, Qa, QK, QL, QM, QN, QO, QP, QQ, QR, QS, QT, QU, QV, QW, QX, Q0, QY, QZ, Z0, Z1, Z2, Z3, Z4, Z5, Z6, Z7, Z8, Z9, Za, Zb, Zd, Ze, Zf, Zg, Zh, Zi, Zj, Zk, Zl, Zm, Zn, Zo, Zp, Zq, Zr, Zs, Zt, Zu, Zv, Zw, Q5, Zx, Zy, Zz, ZA, ZB, ZC, ZD, ZE, ZF, Qb, ZG, ZH, ZI, ZJ, ZK, ZL, ZM, Q6, ZN, ZO, ZP, ZQ, ZR, ZS, ZT, ZU, ZV, ZW, ZX, ZY, ZZ, Y0, Y1, Y2, Y3, Y4, Y5, Y6, Y7, Y8, Y9, Ya, Yb, Yc, Yd, Ye, Yf, Yg, Yh, Yi, Yj, Yk, Yl, Ym, Yn, Yo, Yp, Yq, Yr, Ys, Yt, Yu, Yv, Yw, Yx, Yy, Yz, YA, YB, YC, YD, YE, YF, YG, YH, YI, YJ, YK, YL, YM, YN, YO, Q1, Q2, Qc, YQ, YR, YS, YT, YU, frz, frzAll, peek, res1, resAll, stoAll, argOf, argsOf, bors, wback, outAt, outsFrom, ownsStay, retv, wipeF, unwipe, sto, isNone, tyD, cY, cMul, cMod, cDiv, cPow, Cell.dat, b2n, frzS, frzL, fzV, atI, ixN, fMulL, excOf, frzO, hc1, hc2, lle, w2, wback_d1]
  rw [show frzL [5] [some (.own (.lst q)), some (.dat (.list (Ls.map tIs))), x2, x3, some (.dat (.list [.tuple (hul st.length Ls), .tuple (hul st.length Ls)])), some (.dat (.tuple (hul st.length L2))), some (.dat (dShop S)), some (.dat (tIs st)), some (.dat (.str kept)), some (.own (.lst (hul st.length Ls))), x10, none, none, none, none] = [some (.own (.lst q)), some (.dat (.list (Ls.map tIs))), x2, x3, some (.dat (.list [.tuple (hul st.length Ls), .tuple (hul st.length Ls)])), some (.dat (.tuple (hul st.length L2))), some (.dat (dShop S)), some (.dat (tIs st)), some (.dat (.str kept)), some (.own (.lst (hul st.length Ls))), x10, none, none, none, none] from rfl]
  have lc : mLc 15 (iZp (mCons (mVar 9) (mCons (mVar 5) mNil))) (gTupD 2 (gsCons (gSet 13) (gsCons (gSet 14) gsNil))) mYes (mAndV (m2 fLe (m2 fIx (mVar 13) (mLit (.int 0))) (m2 fIx (mVar 14) (mLit (.int 0)))) (m2 fLe (m2 fIx (mVar 14) (mLit (.int 1))) (m2 fIx (mVar 13) (mLit (.int 1))))) [13, 14] [some (.own (.lst q)), some (.dat (.list (Ls.map tIs))), x2, x3, some (.dat (.list [.tuple (hul st.length Ls), .tuple (hul st.length Ls)])), some (.dat (.tuple (hul st.length L2))), some (.dat (dShop S)), some (.dat (tIs st)), some (.dat (.str kept)), some (.own (.lst (hul st.length Ls))), x10, none, none, none, none] = some (.fre (.lst ((List.range st.length).map fun _ => .bool true)), [some (.own (.lst q)), some (.dat (.list (Ls.map tIs))), x2, x3, some (.dat (.list [.tuple (hul st.length Ls), .tuple (hul st.length Ls)])), some (.dat (.tuple (hul st.length L2))), some (.dat (dShop S)), some (.dat (tIs st)), some (.dat (.str kept)), some (.dat (.list (hul st.length Ls))), x10, none, none, none, none]) := by
    refine lc_all (fun i => PyData.tuple [hp2 (col Ls i), hp2 (col L2 i)]) (fun _ => PyData.bool true) (List.range st.length) (fm1 := [some (.own (.lst q)), some (.dat (.list (Ls.map tIs))), x2, x3, some (.dat (.list [.tuple (hul st.length Ls), .tuple (hul st.length Ls)])), some (.dat (.tuple (hul st.length L2))), some (.dat (dShop S)), some (.dat (tIs st)), some (.dat (.str kept)), some (.dat (.list (hul st.length Ls))), x10, none, none, none, none]) (fmw := [some (.own (.lst q)), some (.dat (.list (Ls.map tIs))), x2, x3, some (.dat (.list [.tuple (hul st.length Ls), .tuple (hul st.length Ls)])), some (.dat (.tuple (hul st.length L2))), some (.dat (dShop S)), some (.dat (tIs st)), some (.dat (.str kept)), some (.dat (.list (hul st.length Ls))), x10, none, none, none, none]) ?_ ?_ ?_ ?_ ?_ ?_
    · have z := zip_huls st.length Ls L2
      generalize hul st.length Ls = U at z
      generalize hul st.length L2 = U2 at z
      generalize Ls.map tIs = RR
      simp [Q3, Qd, Qe, Qf, Qg, Qh, Qi, Qj, Qk, Ql, Qm, Qn, Qo, Qp, Qq, Qr, Qs, Qt, Qu, Qv, Qw, Qx, Q7, Qy, Qz, QA, QB, Q8, Q4, QC, QD, QE, QF, QG, Q9, QH, QI, QJ, Qa, QK, QL, QM, QN, QO, QP, QQ, QR, QS, QT, QU, QV, QW, QX, Q0, QY, QZ, Z0, Z1, Z2, Z3, Z4, Z5, Z6, Z7, Z8, Z9, Za, Zb, Zd, Ze, Zf, Zg, Zh, Zi, Zj, Zk, Zl, Zm, Zn, Zo, Zp, Zq, Zr, Zs, Zt, Zu, Zv, Zw, Q5, Zx, Zy, Zz, ZA, ZB, ZC, ZD, ZE, ZF, Qb, ZG, ZH, ZI, ZJ, ZK, ZL, ZM, Q6, ZN, ZO, ZP, ZQ, ZR, ZS, ZT, ZU, ZV, ZW, ZX, ZY, ZZ, Y0, Y1, Y2, Y3, Y4, Y5, Y6, Y7, Y8, Y9, Ya, Yb, Yc, Yd, Ye, Yf, Yg, Yh, Yi, Yj, Yk, Yl, Ym, Yn, Yo, Yp, Yq, Yr, Ys, Yt, Yu, Yv, Yw, Yx, Yy, Yz, YA, YB, YC, YD, YE, YF, YG, YH, YI, YJ, YK, YL, YM, YN, YO, Q1, Q2, Qc, YQ, YR, YS, YT, YU, frz, frzAll, peek, res1, resAll, stoAll, argOf, argsOf, bors, wback, outAt, outsFrom, ownsStay, retv, wipeF, unwipe, sto, isNone, tyD, cY, cMul, cMod, cDiv, cPow, Cell.dat, b2n, frzS, frzL, fzV, atI, ixN, fMulL, excOf, frzO, z]
    · simp
    · rfl
    · rfl
    · simp; omega
    · intro i mi
      have k1 : mn (col Ls i) ≤ mn (col L2 i) := mn_le (col_sub h2s (mn_mem (col_ne h20)))
      have k2 : mx (col L2 i) ≤ mx (col Ls i) := le_mx (col_sub h2s (mx_mem (col_ne h20)))
      have y0 : ∀ (c : List Int) (fm : Fm), fIx (.dat (hp2 c)) (.dat (.int 0)) fm = some (.dat (.int (mn c)), fm) := fun c fm => fIx_of rfl true fm
      have y1 : ∀ (c : List Int) (fm : Fm), fIx (.dat (hp2 c)) (.dat (.int 1)) fm = some (.dat (.int (mx c)), fm) := fun c fm => fIx_of rfl true fm
      have p0 := y0 (col Ls i)
      have p1 := y1 (col Ls i)
      have p2 := y0 (col L2 i)
      have p3 := y1 (col L2 i)
      clear y0 y1
      generalize hp2 (col Ls i) = A at p0 p1 ⊢
      generalize hp2 (col L2 i) = B at p2 p3 ⊢
      exact ⟨[some (.own (.lst q)), some (.dat (.list (Ls.map tIs))), x2, x3, some (.dat (.list [.tuple (hul st.length Ls), .tuple (hul st.length Ls)])), some (.dat (.tuple (hul st.length L2))), some (.dat (dShop S)), some (.dat (tIs st)), some (.dat (.str kept)), some (.dat (.list (hul st.length Ls))), x10, none, none, some (.dat (A)), some (.dat (B))], .dat (.bool true), by simp [Q3, Qd, Qe, Qf, Qg, Qh, Qi, Qj, Qk, Ql, Qm, Qn, Qo, Qp, Qq, Qr, Qs, Qt, Qu, Qv, Qw, Qx, Q7, Qy, Qz, QA, QB, Q8, Q4, QC, QD, QE, QF, QG, Q9, QH, QI, QJ, Qa, QK, QL, QM, QN, QO, QP, QQ, QR, QS, QT, QU, QV, QW, QX, Q0, QY, QZ, Z0, Z1, Z2, Z3, Z4, Z5, Z6, Z7, Z8, Z9, Za, Zb, Zd, Ze, Zf, Zg, Zh, Zi, Zj, Zk, Zl, Zm, Zn, Zo, Zp, Zq, Zr, Zs, Zt, Zu, Zv, Zw, Q5, Zx, Zy, Zz, ZA, ZB, ZC, ZD, ZE, ZF, Qb, ZG, ZH, ZI, ZJ, ZK, ZL, ZM, Q6, ZN, ZO, ZP, ZQ, ZR, ZS, ZT, ZU, ZV, ZW, ZX, ZY, ZZ, Y0, Y1, Y2, Y3, Y4, Y5, Y6, Y7, Y8, Y9, Ya, Yb, Yc, Yd, Ye, Yf, Yg, Yh, Yi, Yj, Yk, Yl, Ym, Yn, Yo, Yp, Yq, Yr, Ys, Yt, Yu, Yv, Yw, Yx, Yy, Yz, YA, YB, YC, YD, YE, YF, YG, YH, YI, YJ, YK, YL, YM, YN, YO, Q1, Q2, Qc, YQ, YR, YS, YT, YU, frz, frzAll, peek, res1, resAll, stoAll, argOf, argsOf, bors, wback, outAt, outsFrom, ownsStay, retv, wipeF, unwipe, sto, isNone, tyD, cY, cMul, cMod, cDiv, cPow, Cell.dat, b2n, frzS, frzL, fzV, atI, ixN, fMulL, excOf, frzO], by simp [Q3, Qd, Qe, Qf, Qg, Qh, Qi, Qj, Qk, Ql, Qm, Qn, Qo, Qp, Qq, Qr, Qs, Qt, Qu, Qv, Qw, Qx, Q7, Qy, Qz, QA, QB, Q8, Q4, QC, QD, QE, QF, QG, Q9, QH, QI, QJ, Qa, QK, QL, QM, QN, QO, QP, QQ, QR, QS, QT, QU, QV, QW, QX, Q0, QY, QZ, Z0, Z1, Z2, Z3, Z4, Z5, Z6, Z7, Z8, Z9, Za, Zb, Zd, Ze, Zf, Zg, Zh, Zi, Zj, Zk, Zl, Zm, Zn, Zo, Zp, Zq, Zr, Zs, Zt, Zu, Zv, Zw, Q5, Zx, Zy, Zz, ZA, ZB, ZC, ZD, ZE, ZF, Qb, ZG, ZH, ZI, ZJ, ZK, ZL, ZM, Q6, ZN, ZO, ZP, ZQ, ZR, ZS, ZT, ZU, ZV, ZW, ZX, ZY, ZZ, Y0, Y1, Y2, Y3, Y4, Y5, Y6, Y7, Y8, Y9, Ya, Yb, Yc, Yd, Ye, Yf, Yg, Yh, Yi, Yj, Yk, Yl, Ym, Yn, Yo, Yp, Yq, Yr, Ys, Yt, Yu, Yv, Yw, Yx, Yy, Yz, YA, YB, YC, YD, YE, YF, YG, YH, YI, YJ, YK, YL, YM, YN, YO, Q1, Q2, Qc, YQ, YR, YS, YT, YU, frz, frzAll, peek, res1, resAll, stoAll, argOf, argsOf, bors, wback, outAt, outsFrom, ownsStay, retv, wipeF, unwipe, sto, isNone, tyD, cY, cMul, cMod, cDiv, cPow, Cell.dat, b2n, frzS, frzL, fzV, atI, ixN, fMulL, excOf, frzO, -Q0, p0, p1, p2, p3, k1, k2], rfl, rfl⟩
  have hbt : boolsD ((List.range st.length).map fun _ => PyData.bool true) = some ((List.range st.length).map fun _ => true) := boolsD_map (fun _ => true) _
  refine wp_nx (fm1 := [some (.own (.lst q)), some (.dat (.list (Ls.map tIs))), x2, x3, some (.dat (.list [.tuple (hul st.length Ls), .tuple (hul st.length Ls)])), some (.dat (.tuple (hul st.length L2))), some (.dat (dShop S)), some (.dat (tIs st)), some (.dat (.str kept)), some (.dat (.list (hul st.length Ls))), x10, none, none, none, none]) ?_ ?_
  · clear sm u0 u1 u2 v1 v2 w2 hrep hkept
    generalize hul st.length Ls = U at lc
    generalize hul st.length L2 = U2 at lc
    generalize Ls.map tIs = RR at lc
    generalize ((List.range st.length).map fun _ => PyData.bool true) = Z at lc hbt
    have hball : ((List.range st.length).map fun _ => true).all id = true := by simp
    generalize ((List.range st.length).map fun _ => true) = bs at hbt hball
    simp [Q3, Qd, Qe, Qf, Qg, Qh, Qi, Qj, Qk, Ql, Qm, Qn, Qo, Qp, Qq, Qr, Qs, Qt, Qu, Qv, Qw, Qx, Q7, Qy, Qz, QA, QB, Q8, Q4, QC, QD, QE, QF, QG, Q9, QH, QI, QJ, Qa, QK, QL, QM, QN, QO, QP, QQ, QR, QS, QT, QU, QV, QW, QX, Q0, QY, QZ, Z0, Z1, Z2, Z3, Z4, Z5, Z6, Z7, Z8, Z9, Za, Zb, Zd, Ze, Zf, Zg, Zh, Zi, Zj, Zk, Zl, Zm, Zn, Zo, Zp, Zq, Zr, Zs, Zt, Zu, Zv, Zw, Q5, Zx, Zy, Zz, ZA, ZB, ZC, ZD, ZE, ZF, Qb, ZG, ZH, ZI, ZJ, ZK, ZL, ZM, Q6, ZN, ZO, ZP, ZQ, ZR, ZS, ZT, ZU, ZV, ZW, ZX, ZY, ZZ, Y0, Y1, Y2, Y3, Y4, Y5, Y6, Y7, Y8, Y9, Ya, Yb, Yc, Yd, Ye, Yf, Yg, Yh, Yi, Yj, Yk, Yl, Ym, Yn, Yo, Yp, Yq, Yr, Ys, Yt, Yu, Yv, Yw, Yx, Yy, Yz, YA, YB, YC, YD, YE, YF, YG, YH, YI, YJ, YK, YL, YM, YN, YO, Q1, Q2, Qc, YQ, YR, YS, YT, YU, frz, frzAll, peek, res1, resAll, stoAll, argOf, argsOf, bors, wback, outAt, outsFrom, ownsStay, retv, wipeF, unwipe, sto, isNone, tyD, cY, cMul, cMod, cDiv, cPow, Cell.dat, b2n, frzS, frzL, fzV, atI, ixN, fMulL, excOf, frzO, lc, hbt, hball]
  have w3 : Hu [.dat (.list [tIs st])] = some (.dat (.tuple (st.map fun g => .tuple [.int g, .int g])), [.dat (.list [tIs st])]) := by
    have := hHu false true st.length [st] (by simp) (by simp) (fun l m => by rw [show l = st by simpa using m]) (by omega)
    rw [hul_one] at this
    exact this
  have oF : Ok 30 (10 ^ 10) 2 (.tuple (st.map fun g => .tuple [.int g, .int g])) := ⟨by simp; omega, fun x mx => by
    obtain ⟨g, mg, rfl⟩ := List.mem_map.1 mx
    have := sb g mg
    exact ⟨by simp, fun y my => by
      simp only [List.mem_cons, List.not_mem_nil, or_false, or_self] at my
      subst my
      show g.natAbs < 10 ^ 10
      omega⟩⟩
  have eqF := eqv_refl _ oF
  have shF := oF.shaped (by omega)
  have lF : (st.map fun g => PyData.tuple [.int g, .int g]).length ≤ 16777216 := by simp; omega
  have lc3 : mLc 15 (iSeq (mVar 7)) (gSet 12) mYes (mTup (mCons (mVar 12) (mCons (mVar 12) mNil))) [12] [some (.own (.lst q)), some (.dat (.list (Ls.map tIs))), x2, x3, some (.dat (.list [.tuple (hul st.length Ls), .tuple (hul st.length Ls)])), some (.dat (.tuple (hul st.length L2))), some (.dat (dShop S)), some (.dat (tIs st)), some (.dat (.str kept)), some (.dat (.list (hul st.length Ls))), x10, none, none, none, none] = some (.fre (.lst (st.map fun g => .tuple [.int g, .int g])), [some (.own (.lst q)), some (.dat (.list (Ls.map tIs))), x2, x3, some (.dat (.list [.tuple (hul st.length Ls), .tuple (hul st.length Ls)])), some (.dat (.tuple (hul st.length L2))), some (.dat (dShop S)), some (.dat (tIs st)), some (.dat (.str kept)), some (.dat (.list (hul st.length Ls))), x10, none, none, none, none]) := by
    refine lc_all PyData.int (fun g => .tuple [.int g, .int g]) st (fm1 := [some (.own (.lst q)), some (.dat (.list (Ls.map tIs))), x2, x3, some (.dat (.list [.tuple (hul st.length Ls), .tuple (hul st.length Ls)])), some (.dat (.tuple (hul st.length L2))), some (.dat (dShop S)), some (.dat (tIs st)), some (.dat (.str kept)), some (.dat (.list (hul st.length Ls))), x10, none, none, none, none]) (fmw := [some (.own (.lst q)), some (.dat (.list (Ls.map tIs))), x2, x3, some (.dat (.list [.tuple (hul st.length Ls), .tuple (hul st.length Ls)])), some (.dat (.tuple (hul st.length L2))), some (.dat (dShop S)), some (.dat (tIs st)), some (.dat (.str kept)), some (.dat (.list (hul st.length Ls))), x10, none, none, none, none]) ?_ ?_ ?_ ?_ ?_ ?_
    · simp [Q3, Qd, Qe, Qf, Qg, Qh, Qi, Qj, Qk, Ql, Qm, Qn, Qo, Qp, Qq, Qr, Qs, Qt, Qu, Qv, Qw, Qx, Q7, Qy, Qz, QA, QB, Q8, Q4, QC, QD, QE, QF, QG, Q9, QH, QI, QJ, Qa, QK, QL, QM, QN, QO, QP, QQ, QR, QS, QT, QU, QV, QW, QX, Q0, QY, QZ, Z0, Z1, Z2, Z3, Z4, Z5, Z6, Z7, Z8, Z9, Za, Zb, Zd, Ze, Zf, Zg, Zh, Zi, Zj, Zk, Zl, Zm, Zn, Zo, Zp, Zq, Zr, Zs, Zt, Zu, Zv, Zw, Q5, Zx, Zy, Zz, ZA, ZB, ZC, ZD, ZE, ZF, Qb, ZG, ZH, ZI, ZJ, ZK, ZL, ZM, Q6, ZN, ZO, ZP, ZQ, ZR, ZS, ZT, ZU, ZV, ZW, ZX, ZY, ZZ, Y0, Y1, Y2, Y3, Y4, Y5, Y6, Y7, Y8, Y9, Ya, Yb, Yc, Yd, Ye, Yf, Yg, Yh, Yi, Yj, Yk, Yl, Ym, Yn, Yo, Yp, Yq, Yr, Ys, Yt, Yu, Yv, Yw, Yx, Yy, Yz, YA, YB, YC, YD, YE, YF, YG, YH, YI, YJ, YK, YL, YM, YN, YO, Q1, Q2, Qc, YQ, YR, YS, YT, YU, frz, frzAll, peek, res1, resAll, stoAll, argOf, argsOf, bors, wback, outAt, outsFrom, ownsStay, retv, wipeF, unwipe, sto, isNone, tyD, cY, cMul, cMod, cDiv, cPow, Cell.dat, b2n, frzS, frzL, fzV, atI, ixN, fMulL, excOf, frzO, tIs, dI]
    · simp
    · rfl
    · rfl
    · omega
    · intro g mg
      exact ⟨_, _, rfl, by simp [Q3, Qd, Qe, Qf, Qg, Qh, Qi, Qj, Qk, Ql, Qm, Qn, Qo, Qp, Qq, Qr, Qs, Qt, Qu, Qv, Qw, Qx, Q7, Qy, Qz, QA, QB, Q8, Q4, QC, QD, QE, QF, QG, Q9, QH, QI, QJ, Qa, QK, QL, QM, QN, QO, QP, QQ, QR, QS, QT, QU, QV, QW, QX, Q0, QY, QZ, Z0, Z1, Z2, Z3, Z4, Z5, Z6, Z7, Z8, Z9, Za, Zb, Zd, Ze, Zf, Zg, Zh, Zi, Zj, Zk, Zl, Zm, Zn, Zo, Zp, Zq, Zr, Zs, Zt, Zu, Zv, Zw, Q5, Zx, Zy, Zz, ZA, ZB, ZC, ZD, ZE, ZF, Qb, ZG, ZH, ZI, ZJ, ZK, ZL, ZM, Q6, ZN, ZO, ZP, ZQ, ZR, ZS, ZT, ZU, ZV, ZW, ZX, ZY, ZZ, Y0, Y1, Y2, Y3, Y4, Y5, Y6, Y7, Y8, Y9, Ya, Yb, Yc, Yd, Ye, Yf, Yg, Yh, Yi, Yj, Yk, Yl, Ym, Yn, Yo, Yp, Yq, Yr, Ys, Yt, Yu, Yv, Yw, Yx, Yy, Yz, YA, YB, YC, YD, YE, YF, YG, YH, YI, YJ, YK, YL, YM, YN, YO, Q1, Q2, Qc, YQ, YR, YS, YT, YU, frz, frzAll, peek, res1, resAll, stoAll, argOf, argsOf, bors, wback, outAt, outsFrom, ownsStay, retv, wipeF, unwipe, sto, isNone, tyD, cY, cMul, cMod, cDiv, cPow, Cell.dat, b2n, frzS, frzL, fzV, atI, ixN, fMulL, excOf, frzO]; (try first | rfl | exact ⟨rfl, rfl⟩ | exact ⟨rfl, rfl, rfl⟩ | exact ⟨rfl, rfl, rfl, rfl⟩ | exact ⟨rfl, rfl, rfl, rfl, rfl⟩), rfl, rfl⟩
  refine wp_ret (v := .dat (.bool true)) (fm1 := [some (.own (.lst q)), some (.dat (.list (Ls.map tIs))), x2, x3, some (.dat (.list [.tuple (hul st.length Ls), .tuple (hul st.length Ls)])), some (.dat (.tuple (hul st.length L2))), some (.dat (dShop S)), some (.dat (tIs st)), some (.dat (.str kept)), some (.dat (.list (hul st.length Ls))), x10, none, none, none, none]) ?_ (fun x h => nomatch h) ⟨_, _, _, _, rfl, rfl, by simp [Q3, Qd, Qe, Qf, Qg, Qh, Qi, Qj, Qk, Ql, Qm, Qn, Qo, Qp, Qq, Qr, Qs, Qt, Qu, Qv, Qw, Qx, Q7, Qy, Qz, QA, QB, Q8, Q4, QC, QD, QE, QF, QG, Q9, QH, QI, QJ, Qa, YV, QK, QL, QM, QN, QO, QP, QQ, QR, QS, QT, QU, QV, QW, QX, Q0, QY, QZ, Z0, Z1, Z2, Z3, Z4, Z5, Z6, Z7, Z8, Z9, Za, Zb, Zd, Ze, Zf, Zg, Zh, Zi, Zj, Zk, Zl, Zm, Zn, Zo, Zp, Zq, Zr, Zs, Zt, Zu, Zv, Zw, Q5, Zx, Zy, Zz, ZA, ZB, ZC, ZD, ZE, ZF, Qb, ZG, ZH, ZI, ZJ, ZK, ZL, ZM, Q6, ZN, ZO, ZP, ZQ, ZR, ZS, ZT, ZU, ZV, ZW, ZX, ZY, ZZ, Y0, Y1, Y2, Y3, Y4, Y5, Y6, Y7, Y8, Y9, Ya, Yb, Yc, Yd, Ye, Yf, Yg, Yh, Yi, Yj, Yk, Yl, Ym, Yn, Yo, Yp, Yq, Yr, Ys, Yt, Yu, Yv, Yw, Yx, Yy, Yz, YA, YB, YC, YD, YE, YF, YG, YH, YI, YJ, YK, YL, YM, YN, YO, Q1, Q2, Qc, YQ, YR, YS, YT, YU, frz, frzAll, peek, res1, resAll, stoAll, argOf, argsOf, bors, wback, outAt, outsFrom, ownsStay, retv, wipeF, unwipe, sto, isNone, tyD, cY, cMul, cMod, cDiv, cPow, Cell.dat, b2n, frzS, frzL, fzV, atI, ixN, fMulL, excOf, frzO]; (try first | rfl | exact ⟨rfl, rfl⟩ | exact ⟨rfl, rfl, rfl⟩ | exact ⟨rfl, rfl, rfl, rfl⟩ | exact ⟨rfl, rfl, rfl, rfl, rfl⟩), rfl, _, rfl, n1.mono (by omega)⟩
  clear sm u0 u1 u2 v1 v2 w2 hrep hkept lc
  generalize hul st.length Ls = U at lc3
  generalize hul st.length L2 = U2 at lc3
  generalize Ls.map tIs = RR at lc3
  generalize (st.map fun g => PyData.tuple [.int g, .int g]) = Z at lc3 w3 eqF shF lF
  generalize tIs st = T at lc3 w3
  simp [Q3, Qd, Qe, Qf, Qg, Qh, Qi, Qj, Qk, Ql, Qm, Qn, Qo, Qp, Qq, Qr, Qs, Qt, Qu, Qv, Qw, Qx, Q7, Qy, Qz, QA, QB, Q8, Q4, QC, QD, QE, QF, QG, Q9, QH, QI, QJ, Qa, QK, QL, QM, QN, QO, QP, QQ, QR, QS, QT, QU, QV, QW, QX, Q0, QY, QZ, Z0, Z1, Z2, Z3, Z4, Z5, Z6, Z7, Z8, Z9, Za, Zb, Zd, Ze, Zf, Zg, Zh, Zi, Zj, Zk, Zl, Zm, Zn, Zo, Zp, Zq, Zr, Zs, Zt, Zu, Zv, Zw, Q5, Zx, Zy, Zz, ZA, ZB, ZC, ZD, ZE, ZF, Qb, ZG, ZH, ZI, ZJ, ZK, ZL, ZM, Q6, ZN, ZO, ZP, ZQ, ZR, ZS, ZT, ZU, ZV, ZW, ZX, ZY, ZZ, Y0, Y1, Y2, Y3, Y4, Y5, Y6, Y7, Y8, Y9, Ya, Yb, Yc, Yd, Ye, Yf, Yg, Yh, Yi, Yj, Yk, Yl, Ym, Yn, Yo, Yp, Yq, Yr, Ys, Yt, Yu, Yv, Yw, Yx, Yy, Yz, YA, YB, YC, YD, YE, YF, YG, YH, YI, YJ, YK, YL, YM, YN, YO, Q1, Q2, Qc, YQ, YR, YS, YT, YU, frz, frzAll, peek, res1, resAll, stoAll, argOf, argsOf, bors, wback, outAt, outsFrom, ownsStay, retv, wipeF, unwipe, sto, isNone, tyD, cY, cMul, cMod, cDiv, cPow, Cell.dat, b2n, frzS, frzL, fzV, atI, ixN, fMulL, excOf, frzO, w3, lc3, eqF, shF, lF, wback_d1]
theorem law_all (ns : List Int) (h : ns.length ≤ 63) : ∃ outs, Dlaw 30 [.dat (scr ns)] = some (.dat (.bool true), outs) := by
  rw [elaw]
  refine law_gen (A := 3) (T := 2) (c := 300) (by omega) (by omega) (by omega) (by omega) (by omega) (by omega) (h_Box 28) (R := D_right 29) ?_ rfl ns h
  rw [e_right]
  exact sp_right (h_Plant 24) (h_Take 27) (h_Wander 25) (h_Hul 27) (h_HulO 27) (h_Lists (by omega) 2 25) (h_Same (by omega) 4 23)
end Lk21

namespace Lk21
open PySem PySem.Spec PyProof.Rows L2 Rf
def dLaw : Dm := dm 40 dlaw (envD 40 defs bl xs 30) bl xs
/-! ### what the top has written -/
theorem df_mk {K : PySem.W.Frag} {h : Heap} {mg : Str → Option Value} (X : K.In h) (G : h.Ns mainGlobals mg) {d : DR} {f : Addr} {od an : Option Addr} {sl : Array (Option Value)} {oc kV dc pm cd ct : Value}
    (a : PySem.W.nsIn K mainGlobals d.name = some (some (.ref f))) (l : K.lookup f = some ⟨oc, od, .func (PySem.W.fnOf d.name d.name (defArgs d.st) (defBody d.st) (defScope d.st) .none kV dc pm an cd ct), sl⟩) (c : PySem.W.codeIn K cd d.name = true) (k : PySem.W.keepIn K (.ref f) = true)
    (hb : ∀ (kV doc pm : Value) (an : Option Addr) (cdv ct : Value) (us : List Value), us.length = d.ps.length → bindArgs (PySem.W.fnOf d.name d.name (defArgs d.st) (defBody d.st) (defScope d.st) .none kV doc pm an cdv ct) ⟨us, []⟩ = pure (d.ps.zip us))
    (hk : ∀ ks ∈ d.kws, ∀ (kV doc pm : Value) (an : Option Addr) (cdv ct : Value) (ws : List Value), ws.length = ks.length → bindArgs (PySem.W.fnOf d.name d.name (defArgs d.st) (defBody d.st) (defScope d.st) .none kV doc pm an cdv ct) ⟨[], ks.zip ws⟩ = pure (d.ps.zip (permL (kwPm d.ps ks) ws)))
    (sc : FnScope d.N d.ps (defScope d.st)) (ro : ∀ i ∈ d.ro, i < d.ps.length) (hdf : d.df = false) (gk : ∀ x i, findK x d.gk = some i → ∃ t, PySem.W.nsIn K mainGlobals x = some (some (.int i t))) : DfOk K mg d := by
  have F := fun_mk (st := d.st) l c k
  exact ⟨⟨f, _, PySem.W.mg_of X G a, .of F, F.binds hb, fun ks hks s ws _ hl => .of_eq (hk ks hks _ _ _ _ _ _ ws hl), fun h => by rw [hdf] at h; cases h⟩, sc, ro, fun x i h => by
    obtain ⟨t, e⟩ := gk x i h
    exact ⟨_, PySem.W.mg_of X G e, t, rfl⟩⟩
theorem df_mkD {K : PySem.W.Frag} {h : Heap} {mg : Str → Option Value} (X : K.In h) (G : h.Ns mainGlobals mg) {d : DR} {f T e0 : Addr} {od an : Option Addr} {sl : Array (Option Value)} {oc kV dc pm cd ct : Value} {tc : Value} {td : Option Addr} {tn un : Nat} {tsl usl : Array (Option Value)}
    (a : PySem.W.nsIn K mainGlobals d.name = some (some (.ref f))) (l : K.lookup f = some ⟨oc, od, .func (PySem.W.fnOf d.name d.name (defArgs d.st) (defBody d.st) (defScope d.st) (.ref T) kV dc pm an cd ct), sl⟩) (c : PySem.W.codeIn K cd d.name = true) (k : PySem.W.keepIn K (.ref f) = true)
    (t : K.lookup T = some ⟨tc, td, .seq #[.ref e0] tn, tsl⟩) (u : K.lookup e0 = some ⟨.type "tuple", none, .seq #[] un, usl⟩)
    (hb : ∀ (T : Addr) (kV doc pm : Value) (an : Option Addr) (cdv ct : Value) (us : List Value), us.length = d.ps.length → ∃ k, bindArgs (PySem.W.fnOf d.name d.name (defArgs d.st) (defBody d.st) (defScope d.st) (.ref T) kV doc pm an cdv ct) ⟨us, []⟩ = seqItems? (.ref T) >>= k ∧ ∀ v : Value, k (some #[v]) = pure (d.ps.zip us))
    (hd : ∀ (T : Addr) (kV doc pm : Value) (an : Option Addr) (cdv ct : Value) (us : List Value), us.length + 1 = d.ps.length → ∃ k, bindArgs (PySem.W.fnOf d.name d.name (defArgs d.st) (defBody d.st) (defScope d.st) (.ref T) kV doc pm an cdv ct) ⟨us, []⟩ = seqItems? (.ref T) >>= k ∧ ∀ v : Value, k (some #[v]) = pure (d.ps.zip (us ++ [v])))
    (hk : ∀ ks ∈ d.kws, ∀ (T : Addr) (kV doc pm : Value) (an : Option Addr) (cdv ct : Value) (ws : List Value), ws.length = ks.length → ∃ k, bindArgs (PySem.W.fnOf d.name d.name (defArgs d.st) (defBody d.st) (defScope d.st) (.ref T) kV doc pm an cdv ct) ⟨[], ks.zip ws⟩ = seqItems? (.ref T) >>= k ∧ ∀ v : Value, k (some #[v]) = pure (d.ps.zip (permL (kwPm d.ps ks) ws)))
    (sc : FnScope d.N d.ps (defScope d.st)) (ro : ∀ i ∈ d.ro, i < d.ps.length) (gk : ∀ x i, findK x d.gk = some i → ∃ t, PySem.W.nsIn K mainGlobals x = some (some (.int i t))) : DfOk K mg d := by
  have look : ∀ {α : Type} {M : Model} {h : Heap} {kk : Option (Array Value) → Sem α} {r : α}, K.In h → kk (some #[.ref e0]) = pure r → PySem.W.Looks M h (seqItems? (.ref T) >>= kk) r := fun {α M h kk r} X e => looks_items X t rfl (by rw [e]; exact .of_pure rfl)
  refine ⟨⟨f, _, PySem.W.mg_of X G a, ⟨⟨_, _, _, _, _, _, _, _, _, _, rfl, l, c⟩, k⟩, fun s us X hl => ?_, fun ks hks s ws X hl => ?_, fun _ => ⟨e0, ⟨_, un, u, rfl, rfl, rfl⟩, fun s us X hl => ?_⟩⟩, sc, ro, fun x i h => by
    obtain ⟨t, e⟩ := gk x i h
    exact ⟨_, PySem.W.mg_of X G e, t, rfl⟩⟩
  · rw [List.append_nil] at hl ⊢
    obtain ⟨kk, e1, e2⟩ := hb T kV dc pm an cd ct us hl
    refine BindsTo.of_looks fun M => ?_
    rw [e1]; exact look X (e2 _)
  · obtain ⟨kk, e1, e2⟩ := hk ks hks T kV dc pm an cd ct ws hl
    refine BindsTo.of_looks fun M => ?_
    rw [e1]; exact look X (e2 _)
  · obtain ⟨kk, e1, e2⟩ := hd T kV dc pm an cd ct us (by simpa using hl)
    refine BindsTo.of_looks fun M => ?_
    rw [e1]; exact look X (e2 _)
theorem sc_dhulls : FnScope dhulls.N dhulls.ps (defScope dhulls.st) := ⟨rfl, rfl, rfl, by decide +kernel, rfl, by decide +kernel, by decide +kernel⟩
theorem hb_dhulls (kV doc pm : Value) (an : Option Addr) (cdv ct : Value) (us : List Value) (hl : us.length = dhulls.ps.length) : bindArgs (PySem.W.fnOf dhulls.name dhulls.name (defArgs dhulls.st) (defBody dhulls.st) (defScope dhulls.st) .none kV doc pm an cdv ct) ⟨us, []⟩ = pure (dhulls.ps.zip us) := match us, hl with | [_], _ => rfl
theorem hk_dhulls : ∀ ks ∈ dhulls.kws, ∀ (kV doc pm : Value) (an : Option Addr) (cdv ct : Value) (ws : List Value), ws.length = ks.length → bindArgs (PySem.W.fnOf dhulls.name dhulls.name (defArgs dhulls.st) (defBody dhulls.st) (defScope dhulls.st) .none kV doc pm an cdv ct) ⟨[], ks.zip ws⟩ = pure (dhulls.ps.zip (permL (kwPm dhulls.ps ks) ws)) := by
  intro ks h
  rcases List.mem_cons.mp h with rfl | h
  · exact fun kV doc pm an cdv ct ws hl => match ws, hl with | [_], _ => rfl
  cases h
theorem sc_d_box : FnScope d_box.N d_box.ps (defScope d_box.st) := ⟨rfl, rfl, rfl, by decide +kernel, rfl, by decide +kernel, by decide +kernel⟩
theorem hb_d_box (kV doc pm : Value) (an : Option Addr) (cdv ct : Value) (us : List Value) (hl : us.length = d_box.ps.length) : bindArgs (PySem.W.fnOf d_box.name d_box.name (defArgs d_box.st) (defBody d_box.st) (defScope d_box.st) .none kV doc pm an cdv ct) ⟨us, []⟩ = pure (d_box.ps.zip us) := match us, hl with | [_, _], _ => rfl
theorem hk_d_box : ∀ ks ∈ d_box.kws, ∀ (kV doc pm : Value) (an : Option Addr) (cdv ct : Value) (ws : List Value), ws.length = ks.length → bindArgs (PySem.W.fnOf d_box.name d_box.name (defArgs d_box.st) (defBody d_box.st) (defScope d_box.st) .none kV doc pm an cdv ct) ⟨[], ks.zip ws⟩ = pure (d_box.ps.zip (permL (kwPm d_box.ps ks) ws)) := fun _ h => nomatch h
theorem sc_d_take : FnScope d_take.N d_take.ps (defScope d_take.st) := ⟨rfl, rfl, rfl, by decide +kernel, rfl, by decide +kernel, by decide +kernel⟩
theorem hb_d_take (kV doc pm : Value) (an : Option Addr) (cdv ct : Value) (us : List Value) (hl : us.length = d_take.ps.length) : bindArgs (PySem.W.fnOf d_take.name d_take.name (defArgs d_take.st) (defBody d_take.st) (defScope d_take.st) .none kV doc pm an cdv ct) ⟨us, []⟩ = pure (d_take.ps.zip us) := match us, hl with | [_, _], _ => rfl
theorem hk_d_take : ∀ ks ∈ d_take.kws, ∀ (kV doc pm : Value) (an : Option Addr) (cdv ct : Value) (ws : List Value), ws.length = ks.length → bindArgs (PySem.W.fnOf d_take.name d_take.name (defArgs d_take.st) (defBody d_take.st) (defScope d_take.st) .none kV doc pm an cdv ct) ⟨[], ks.zip ws⟩ = pure (d_take.ps.zip (permL (kwPm d_take.ps ks) ws)) := fun _ h => nomatch h
theorem sc_d_pick : FnScope d_pick.N d_pick.ps (defScope d_pick.st) := ⟨rfl, rfl, rfl, by decide +kernel, rfl, by decide +kernel, by decide +kernel⟩
theorem hb_d_pick (kV doc pm : Value) (an : Option Addr) (cdv ct : Value) (us : List Value) (hl : us.length = d_pick.ps.length) : bindArgs (PySem.W.fnOf d_pick.name d_pick.name (defArgs d_pick.st) (defBody d_pick.st) (defScope d_pick.st) .none kV doc pm an cdv ct) ⟨us, []⟩ = pure (d_pick.ps.zip us) := match us, hl with | [_, _], _ => rfl
theorem hk_d_pick : ∀ ks ∈ d_pick.kws, ∀ (kV doc pm : Value) (an : Option Addr) (cdv ct : Value) (ws : List Value), ws.length = ks.length → bindArgs (PySem.W.fnOf d_pick.name d_pick.name (defArgs d_pick.st) (defBody d_pick.st) (defScope d_pick.st) .none kV doc pm an cdv ct) ⟨[], ks.zip ws⟩ = pure (d_pick.ps.zip (permL (kwPm d_pick.ps ks) ws)) := fun _ h => nomatch h
theorem sc_d_same : FnScope d_same.N d_same.ps (defScope d_same.st) := ⟨rfl, rfl, rfl, by decide +kernel, rfl, by decide +kernel, by decide +kernel⟩
theorem hb_d_same (kV doc pm : Value) (an : Option Addr) (cdv ct : Value) (us : List Value) (hl : us.length = d_same.ps.length) : bindArgs (PySem.W.fnOf d_same.name d_same.name (defArgs d_same.st) (defBody d_same.st) (defScope d_same.st) .none kV doc pm an cdv ct) ⟨us, []⟩ = pure (d_same.ps.zip us) := match us, hl with | [_, _], _ => rfl
theorem hk_d_same : ∀ ks ∈ d_same.kws, ∀ (kV doc pm : Value) (an : Option Addr) (cdv ct : Value) (ws : List Value), ws.length = ks.length → bindArgs (PySem.W.fnOf d_same.name d_same.name (defArgs d_same.st) (defBody d_same.st) (defScope d_same.st) .none kV doc pm an cdv ct) ⟨[], ks.zip ws⟩ = pure (d_same.ps.zip (permL (kwPm d_same.ps ks) ws)) := fun _ h => nomatch h
theorem sc_d_lists : FnScope d_lists.N d_lists.ps (defScope d_lists.st) := ⟨rfl, rfl, rfl, by decide +kernel, rfl, by decide +kernel, by decide +kernel⟩
theorem hb_d_lists (kV doc pm : Value) (an : Option Addr) (cdv ct : Value) (us : List Value) (hl : us.length = d_lists.ps.length) : bindArgs (PySem.W.fnOf d_lists.name d_lists.name (defArgs d_lists.st) (defBody d_lists.st) (defScope d_lists.st) .none kV doc pm an cdv ct) ⟨us, []⟩ = pure (d_lists.ps.zip us) := match us, hl with | [_], _ => rfl
theorem hk_d_lists : ∀ ks ∈ d_lists.kws, ∀ (kV doc pm : Value) (an : Option Addr) (cdv ct : Value) (ws : List Value), ws.length = ks.length → bindArgs (PySem.W.fnOf d_lists.name d_lists.name (defArgs d_lists.st) (defBody d_lists.st) (defScope d_lists.st) .none kV doc pm an cdv ct) ⟨[], ks.zip ws⟩ = pure (d_lists.ps.zip (permL (kwPm d_lists.ps ks) ws)) := fun _ h => nomatch h
theorem sc_d_shuffled : FnScope d_shuffled.N d_shuffled.ps (defScope d_shuffled.st) := ⟨rfl, rfl, rfl, by decide +kernel, rfl, by decide +kernel, by decide +kernel⟩
theorem hb_d_shuffled (kV doc pm : Value) (an : Option Addr) (cdv ct : Value) (us : List Value) (hl : us.length = d_shuffled.ps.length) : bindArgs (PySem.W.fnOf d_shuffled.name d_shuffled.name (defArgs d_shuffled.st) (defBody d_shuffled.st) (defScope d_shuffled.st) .none kV doc pm an cdv ct) ⟨us, []⟩ = pure (d_shuffled.ps.zip us) := match us, hl with | [_, _], _ => rfl
theorem hk_d_shuffled : ∀ ks ∈ d_shuffled.kws, ∀ (kV doc pm : Value) (an : Option Addr) (cdv ct : Value) (ws : List Value), ws.length = ks.length → bindArgs (PySem.W.fnOf d_shuffled.name d_shuffled.name (defArgs d_shuffled.st) (defBody d_shuffled.st) (defScope d_shuffled.st) .none kV doc pm an cdv ct) ⟨[], ks.zip ws⟩ = pure (d_shuffled.ps.zip (permL (kwPm d_shuffled.ps ks) ws)) := fun _ h => nomatch h
theorem sc_d_gauges : FnScope d_gauges.N d_gauges.ps (defScope d_gauges.st) := ⟨rfl, rfl, rfl, by decide +kernel, rfl, by decide +kernel, by decide +kernel⟩
theorem hb_d_gauges (kV doc pm : Value) (an : Option Addr) (cdv ct : Value) (us : List Value) (hl : us.length = d_gauges.ps.length) : bindArgs (PySem.W.fnOf d_gauges.name d_gauges.name (defArgs d_gauges.st) (defBody d_gauges.st) (defScope d_gauges.st) .none kV doc pm an cdv ct) ⟨us, []⟩ = pure (d_gauges.ps.zip us) := match us, hl with | [_, _], _ => rfl
theorem hk_d_gauges : ∀ ks ∈ d_gauges.kws, ∀ (kV doc pm : Value) (an : Option Addr) (cdv ct : Value) (ws : List Value), ws.length = ks.length → bindArgs (PySem.W.fnOf d_gauges.name d_gauges.name (defArgs d_gauges.st) (defBody d_gauges.st) (defScope d_gauges.st) .none kV doc pm an cdv ct) ⟨[], ks.zip ws⟩ = pure (d_gauges.ps.zip (permL (kwPm d_gauges.ps ks) ws)) := fun _ h => nomatch h
theorem sc_d_span : FnScope d_span.N d_span.ps (defScope d_span.st) := ⟨rfl, rfl, rfl, by decide +kernel, rfl, by decide +kernel, by decide +kernel⟩
theorem hb_d_span (kV doc pm : Value) (an : Option Addr) (cdv ct : Value) (us : List Value) (hl : us.length = d_span.ps.length) : bindArgs (PySem.W.fnOf d_span.name d_span.name (defArgs d_span.st) (defBody d_span.st) (defScope d_span.st) .none kV doc pm an cdv ct) ⟨us, []⟩ = pure (d_span.ps.zip us) := match us, hl with | [_, _, _], _ => rfl
theorem hk_d_span : ∀ ks ∈ d_span.kws, ∀ (kV doc pm : Value) (an : Option Addr) (cdv ct : Value) (ws : List Value), ws.length = ks.length → bindArgs (PySem.W.fnOf d_span.name d_span.name (defArgs d_span.st) (defBody d_span.st) (defScope d_span.st) .none kV doc pm an cdv ct) ⟨[], ks.zip ws⟩ = pure (d_span.ps.zip (permL (kwPm d_span.ps ks) ws)) := fun _ h => nomatch h
theorem sc_d_plant : FnScope d_plant.N d_plant.ps (defScope d_plant.st) := ⟨rfl, rfl, rfl, by decide +kernel, rfl, by decide +kernel, by decide +kernel⟩
theorem hb_d_plant (kV doc pm : Value) (an : Option Addr) (cdv ct : Value) (us : List Value) (hl : us.length = d_plant.ps.length) : bindArgs (PySem.W.fnOf d_plant.name d_plant.name (defArgs d_plant.st) (defBody d_plant.st) (defScope d_plant.st) .none kV doc pm an cdv ct) ⟨us, []⟩ = pure (d_plant.ps.zip us) := match us, hl with | [_, _, _], _ => rfl
theorem hk_d_plant : ∀ ks ∈ d_plant.kws, ∀ (kV doc pm : Value) (an : Option Addr) (cdv ct : Value) (ws : List Value), ws.length = ks.length → bindArgs (PySem.W.fnOf d_plant.name d_plant.name (defArgs d_plant.st) (defBody d_plant.st) (defScope d_plant.st) .none kV doc pm an cdv ct) ⟨[], ks.zip ws⟩ = pure (d_plant.ps.zip (permL (kwPm d_plant.ps ks) ws)) := fun _ h => nomatch h
theorem sc_d_fits : FnScope d_fits.N d_fits.ps (defScope d_fits.st) := ⟨rfl, rfl, rfl, by decide +kernel, rfl, by decide +kernel, by decide +kernel⟩
theorem hb_d_fits (kV doc pm : Value) (an : Option Addr) (cdv ct : Value) (us : List Value) (hl : us.length = d_fits.ps.length) : bindArgs (PySem.W.fnOf d_fits.name d_fits.name (defArgs d_fits.st) (defBody d_fits.st) (defScope d_fits.st) .none kV doc pm an cdv ct) ⟨us, []⟩ = pure (d_fits.ps.zip us) := match us, hl with | [_, _, _], _ => rfl
theorem hk_d_fits : ∀ ks ∈ d_fits.kws, ∀ (kV doc pm : Value) (an : Option Addr) (cdv ct : Value) (ws : List Value), ws.length = ks.length → bindArgs (PySem.W.fnOf d_fits.name d_fits.name (defArgs d_fits.st) (defBody d_fits.st) (defScope d_fits.st) .none kV doc pm an cdv ct) ⟨[], ks.zip ws⟩ = pure (d_fits.ps.zip (permL (kwPm d_fits.ps ks) ws)) := fun _ h => nomatch h
theorem sc_d_store : FnScope d_store.N d_store.ps (defScope d_store.st) := ⟨rfl, rfl, rfl, by decide +kernel, rfl, by decide +kernel, by decide +kernel⟩
theorem hb_d_store (kV doc pm : Value) (an : Option Addr) (cdv ct : Value) (us : List Value) (hl : us.length = d_store.ps.length) : bindArgs (PySem.W.fnOf d_store.name d_store.name (defArgs d_store.st) (defBody d_store.st) (defScope d_store.st) .none kV doc pm an cdv ct) ⟨us, []⟩ = pure (d_store.ps.zip us) := match us, hl with | [_, _], _ => rfl
theorem hk_d_store : ∀ ks ∈ d_store.kws, ∀ (kV doc pm : Value) (an : Option Addr) (cdv ct : Value) (ws : List Value), ws.length = ks.length → bindArgs (PySem.W.fnOf d_store.name d_store.name (defArgs d_store.st) (defBody d_store.st) (defScope d_store.st) .none kV doc pm an cdv ct) ⟨[], ks.zip ws⟩ = pure (d_store.ps.zip (permL (kwPm d_store.ps ks) ws)) := fun _ h => nomatch h
theorem sc_d_after : FnScope d_after.N d_after.ps (defScope d_after.st) := ⟨rfl, rfl, rfl, by decide +kernel, rfl, by decide +kernel, by decide +kernel⟩
theorem hb_d_after (kV doc pm : Value) (an : Option Addr) (cdv ct : Value) (us : List Value) (hl : us.length = d_after.ps.length) : bindArgs (PySem.W.fnOf d_after.name d_after.name (defArgs d_after.st) (defBody d_after.st) (defScope d_after.st) .none kV doc pm an cdv ct) ⟨us, []⟩ = pure (d_after.ps.zip us) := match us, hl with | [_, _], _ => rfl
theorem hk_d_after : ∀ ks ∈ d_after.kws, ∀ (kV doc pm : Value) (an : Option Addr) (cdv ct : Value) (ws : List Value), ws.length = ks.length → bindArgs (PySem.W.fnOf d_after.name d_after.name (defArgs d_after.st) (defBody d_after.st) (defScope d_after.st) .none kV doc pm an cdv ct) ⟨[], ks.zip ws⟩ = pure (d_after.ps.zip (permL (kwPm d_after.ps ks) ws)) := fun _ h => nomatch h
theorem sc_d_deals : FnScope d_deals.N d_deals.ps (defScope d_deals.st) := ⟨rfl, rfl, rfl, by decide +kernel, rfl, by decide +kernel, by decide +kernel⟩
theorem hb_d_deals (kV doc pm : Value) (an : Option Addr) (cdv ct : Value) (us : List Value) (hl : us.length = d_deals.ps.length) : bindArgs (PySem.W.fnOf d_deals.name d_deals.name (defArgs d_deals.st) (defBody d_deals.st) (defScope d_deals.st) .none kV doc pm an cdv ct) ⟨us, []⟩ = pure (d_deals.ps.zip us) := match us, hl with | [_, _], _ => rfl
theorem hk_d_deals : ∀ ks ∈ d_deals.kws, ∀ (kV doc pm : Value) (an : Option Addr) (cdv ct : Value) (ws : List Value), ws.length = ks.length → bindArgs (PySem.W.fnOf d_deals.name d_deals.name (defArgs d_deals.st) (defBody d_deals.st) (defScope d_deals.st) .none kV doc pm an cdv ct) ⟨[], ks.zip ws⟩ = pure (d_deals.ps.zip (permL (kwPm d_deals.ps ks) ws)) := fun _ h => nomatch h
theorem sc_d_wandered : FnScope d_wandered.N d_wandered.ps (defScope d_wandered.st) := ⟨rfl, rfl, rfl, by decide +kernel, rfl, by decide +kernel, by decide +kernel⟩
theorem hb_d_wandered (kV doc pm : Value) (an : Option Addr) (cdv ct : Value) (us : List Value) (hl : us.length = d_wandered.ps.length) : bindArgs (PySem.W.fnOf d_wandered.name d_wandered.name (defArgs d_wandered.st) (defBody d_wandered.st) (defScope d_wandered.st) .none kV doc pm an cdv ct) ⟨us, []⟩ = pure (d_wandered.ps.zip us) := match us, hl with | [_, _, _, _], _ => rfl
theorem hk_d_wandered : ∀ ks ∈ d_wandered.kws, ∀ (kV doc pm : Value) (an : Option Addr) (cdv ct : Value) (ws : List Value), ws.length = ks.length → bindArgs (PySem.W.fnOf d_wandered.name d_wandered.name (defArgs d_wandered.st) (defBody d_wandered.st) (defScope d_wandered.st) .none kV doc pm an cdv ct) ⟨[], ks.zip ws⟩ = pure (d_wandered.ps.zip (permL (kwPm d_wandered.ps ks) ws)) := fun _ h => nomatch h
theorem sc_d_right : FnScope d_right.N d_right.ps (defScope d_right.st) := ⟨rfl, rfl, rfl, by decide +kernel, rfl, by decide +kernel, by decide +kernel⟩
theorem hb_d_right (kV doc pm : Value) (an : Option Addr) (cdv ct : Value) (us : List Value) (hl : us.length = d_right.ps.length) : bindArgs (PySem.W.fnOf d_right.name d_right.name (defArgs d_right.st) (defBody d_right.st) (defScope d_right.st) .none kV doc pm an cdv ct) ⟨us, []⟩ = pure (d_right.ps.zip us) := match us, hl with | [_], _ => rfl
theorem hk_d_right : ∀ ks ∈ d_right.kws, ∀ (kV doc pm : Value) (an : Option Addr) (cdv ct : Value) (ws : List Value), ws.length = ks.length → bindArgs (PySem.W.fnOf d_right.name d_right.name (defArgs d_right.st) (defBody d_right.st) (defScope d_right.st) .none kV doc pm an cdv ct) ⟨[], ks.zip ws⟩ = pure (d_right.ps.zip (permL (kwPm d_right.ps ks) ws)) := fun _ h => nomatch h
theorem sc_dlaw : FnScope dlaw.N dlaw.ps (defScope dlaw.st) := ⟨rfl, rfl, rfl, by decide +kernel, rfl, by decide +kernel, by decide +kernel⟩
theorem hb_dlaw (kV doc pm : Value) (an : Option Addr) (cdv ct : Value) (us : List Value) (hl : us.length = dlaw.ps.length) : bindArgs (PySem.W.fnOf dlaw.name dlaw.name (defArgs dlaw.st) (defBody dlaw.st) (defScope dlaw.st) .none kV doc pm an cdv ct) ⟨us, []⟩ = pure (dlaw.ps.zip us) := match us, hl with | [_], _ => rfl
theorem hk_dlaw : ∀ ks ∈ dlaw.kws, ∀ (kV doc pm : Value) (an : Option Addr) (cdv ct : Value) (ws : List Value), ws.length = ks.length → bindArgs (PySem.W.fnOf dlaw.name dlaw.name (defArgs dlaw.st) (defBody dlaw.st) (defScope dlaw.st) .none kV doc pm an cdv ct) ⟨[], ks.zip ws⟩ = pure (dlaw.ps.zip (permL (kwPm dlaw.ps ks) ws)) := fun _ h => nomatch h
theorem all_mk {l : PySem.W.OpenLaw} {w : World} {K : PySem.W.Frag} {h : Heap} {mg : Str → Option Value} {fa f0 f1 f2 f3 f4 f5 f6 f7 f8 f9 f10 f11 f12 f13 f14 f15 f16 : Addr} (X : K.In h) (G : h.Ns mainGlobals mg) (hfa : mg "law" = some (.ref fa)) {od0 an0 od1 an1 od2 an2 od3 an3 od4 an4 od5 an5 od6 an6 od7 an7 od8 an8 od9 an9 od10 an10 od11 an11 od12 an12 od13 an13 od14 an14 od15 an15 od16 an16 : Option Addr} {sl0 sl1 sl2 sl3 sl4 sl5 sl6 sl7 sl8 sl9 sl10 sl11 sl12 sl13 sl14 sl15 sl16 : Array (Option Value)} {oc0 kV0 dc0 pm0 cd0 ct0 oc1 kV1 dc1 pm1 cd1 ct1 oc2 kV2 dc2 pm2 cd2 ct2 oc3 kV3 dc3 pm3 cd3 ct3 oc4 kV4 dc4 pm4 cd4 ct4 oc5 kV5 dc5 pm5 cd5 ct5 oc6 kV6 dc6 pm6 cd6 ct6 oc7 kV7 dc7 pm7 cd7 ct7 oc8 kV8 dc8 pm8 cd8 ct8 oc9 kV9 dc9 pm9 cd9 ct9 oc10 kV10 dc10 pm10 cd10 ct10 oc11 kV11 dc11 pm11 cd11 ct11 oc12 kV12 dc12 pm12 cd12 ct12 oc13 kV13 dc13 pm13 cd13 ct13 oc14 kV14 dc14 pm14 cd14 ct14 oc15 kV15 dc15 pm15 cd15 ct15 oc16 kV16 dc16 pm16 cd16 ct16 : Value}
    (a0 : PySem.W.nsIn K mainGlobals dhulls.name = some (some (.ref f0))) (l0 : K.lookup f0 = some ⟨oc0, od0, .func (PySem.W.fnOf dhulls.name dhulls.name (defArgs dhulls.st) (defBody dhulls.st) (defScope dhulls.st) .none kV0 dc0 pm0 an0 cd0 ct0), sl0⟩) (c0 : PySem.W.codeIn K cd0 dhulls.name = true) (k0 : PySem.W.keepIn K (.ref f0) = true)
    (a1 : PySem.W.nsIn K mainGlobals d_box.name = some (some (.ref f1))) (l1 : K.lookup f1 = some ⟨oc1, od1, .func (PySem.W.fnOf d_box.name d_box.name (defArgs d_box.st) (defBody d_box.st) (defScope d_box.st) .none kV1 dc1 pm1 an1 cd1 ct1), sl1⟩) (c1 : PySem.W.codeIn K cd1 d_box.name = true) (k1 : PySem.W.keepIn K (.ref f1) = true)
    (a2 : PySem.W.nsIn K mainGlobals d_take.name = some (some (.ref f2))) (l2 : K.lookup f2 = some ⟨oc2, od2, .func (PySem.W.fnOf d_take.name d_take.name (defArgs d_take.st) (defBody d_take.st) (defScope d_take.st) .none kV2 dc2 pm2 an2 cd2 ct2), sl2⟩) (c2 : PySem.W.codeIn K cd2 d_take.name = true) (k2 : PySem.W.keepIn K (.ref f2) = true)
    (a3 : PySem.W.nsIn K mainGlobals d_pick.name = some (some (.ref f3))) (l3 : K.lookup f3 = some ⟨oc3, od3, .func (PySem.W.fnOf d_pick.name d_pick.name (defArgs d_pick.st) (defBody d_pick.st) (defScope d_pick.st) .none kV3 dc3 pm3 an3 cd3 ct3), sl3⟩) (c3 : PySem.W.codeIn K cd3 d_pick.name = true) (k3 : PySem.W.keepIn K (.ref f3) = true)
    (a4 : PySem.W.nsIn K mainGlobals d_same.name = some (some (.ref f4))) (l4 : K.lookup f4 = some ⟨oc4, od4, .func (PySem.W.fnOf d_same.name d_same.name (defArgs d_same.st) (defBody d_same.st) (defScope d_same.st) .none kV4 dc4 pm4 an4 cd4 ct4), sl4⟩) (c4 : PySem.W.codeIn K cd4 d_same.name = true) (k4 : PySem.W.keepIn K (.ref f4) = true)
    (a5 : PySem.W.nsIn K mainGlobals d_lists.name = some (some (.ref f5))) (l5 : K.lookup f5 = some ⟨oc5, od5, .func (PySem.W.fnOf d_lists.name d_lists.name (defArgs d_lists.st) (defBody d_lists.st) (defScope d_lists.st) .none kV5 dc5 pm5 an5 cd5 ct5), sl5⟩) (c5 : PySem.W.codeIn K cd5 d_lists.name = true) (k5 : PySem.W.keepIn K (.ref f5) = true)
    (a6 : PySem.W.nsIn K mainGlobals d_shuffled.name = some (some (.ref f6))) (l6 : K.lookup f6 = some ⟨oc6, od6, .func (PySem.W.fnOf d_shuffled.name d_shuffled.name (defArgs d_shuffled.st) (defBody d_shuffled.st) (defScope d_shuffled.st) .none kV6 dc6 pm6 an6 cd6 ct6), sl6⟩) (c6 : PySem.W.codeIn K cd6 d_shuffled.name = true) (k6 : PySem.W.keepIn K (.ref f6) = true)
    (a7 : PySem.W.nsIn K mainGlobals d_gauges.name = some (some (.ref f7))) (l7 : K.lookup f7 = some ⟨oc7, od7, .func (PySem.W.fnOf d_gauges.name d_gauges.name (defArgs d_gauges.st) (defBody d_gauges.st) (defScope d_gauges.st) .none kV7 dc7 pm7 an7 cd7 ct7), sl7⟩) (c7 : PySem.W.codeIn K cd7 d_gauges.name = true) (k7 : PySem.W.keepIn K (.ref f7) = true)
    (a8 : PySem.W.nsIn K mainGlobals d_span.name = some (some (.ref f8))) (l8 : K.lookup f8 = some ⟨oc8, od8, .func (PySem.W.fnOf d_span.name d_span.name (defArgs d_span.st) (defBody d_span.st) (defScope d_span.st) .none kV8 dc8 pm8 an8 cd8 ct8), sl8⟩) (c8 : PySem.W.codeIn K cd8 d_span.name = true) (k8 : PySem.W.keepIn K (.ref f8) = true)
    (a9 : PySem.W.nsIn K mainGlobals d_plant.name = some (some (.ref f9))) (l9 : K.lookup f9 = some ⟨oc9, od9, .func (PySem.W.fnOf d_plant.name d_plant.name (defArgs d_plant.st) (defBody d_plant.st) (defScope d_plant.st) .none kV9 dc9 pm9 an9 cd9 ct9), sl9⟩) (c9 : PySem.W.codeIn K cd9 d_plant.name = true) (k9 : PySem.W.keepIn K (.ref f9) = true)
    (a10 : PySem.W.nsIn K mainGlobals d_fits.name = some (some (.ref f10))) (l10 : K.lookup f10 = some ⟨oc10, od10, .func (PySem.W.fnOf d_fits.name d_fits.name (defArgs d_fits.st) (defBody d_fits.st) (defScope d_fits.st) .none kV10 dc10 pm10 an10 cd10 ct10), sl10⟩) (c10 : PySem.W.codeIn K cd10 d_fits.name = true) (k10 : PySem.W.keepIn K (.ref f10) = true)
    (a11 : PySem.W.nsIn K mainGlobals d_store.name = some (some (.ref f11))) (l11 : K.lookup f11 = some ⟨oc11, od11, .func (PySem.W.fnOf d_store.name d_store.name (defArgs d_store.st) (defBody d_store.st) (defScope d_store.st) .none kV11 dc11 pm11 an11 cd11 ct11), sl11⟩) (c11 : PySem.W.codeIn K cd11 d_store.name = true) (k11 : PySem.W.keepIn K (.ref f11) = true)
    (a12 : PySem.W.nsIn K mainGlobals d_after.name = some (some (.ref f12))) (l12 : K.lookup f12 = some ⟨oc12, od12, .func (PySem.W.fnOf d_after.name d_after.name (defArgs d_after.st) (defBody d_after.st) (defScope d_after.st) .none kV12 dc12 pm12 an12 cd12 ct12), sl12⟩) (c12 : PySem.W.codeIn K cd12 d_after.name = true) (k12 : PySem.W.keepIn K (.ref f12) = true)
    (a13 : PySem.W.nsIn K mainGlobals d_deals.name = some (some (.ref f13))) (l13 : K.lookup f13 = some ⟨oc13, od13, .func (PySem.W.fnOf d_deals.name d_deals.name (defArgs d_deals.st) (defBody d_deals.st) (defScope d_deals.st) .none kV13 dc13 pm13 an13 cd13 ct13), sl13⟩) (c13 : PySem.W.codeIn K cd13 d_deals.name = true) (k13 : PySem.W.keepIn K (.ref f13) = true)
    (a14 : PySem.W.nsIn K mainGlobals d_wandered.name = some (some (.ref f14))) (l14 : K.lookup f14 = some ⟨oc14, od14, .func (PySem.W.fnOf d_wandered.name d_wandered.name (defArgs d_wandered.st) (defBody d_wandered.st) (defScope d_wandered.st) .none kV14 dc14 pm14 an14 cd14 ct14), sl14⟩) (c14 : PySem.W.codeIn K cd14 d_wandered.name = true) (k14 : PySem.W.keepIn K (.ref f14) = true)
    (a15 : PySem.W.nsIn K mainGlobals d_right.name = some (some (.ref f15))) (l15 : K.lookup f15 = some ⟨oc15, od15, .func (PySem.W.fnOf d_right.name d_right.name (defArgs d_right.st) (defBody d_right.st) (defScope d_right.st) .none kV15 dc15 pm15 an15 cd15 ct15), sl15⟩) (c15 : PySem.W.codeIn K cd15 d_right.name = true) (k15 : PySem.W.keepIn K (.ref f15) = true)
    (a16 : PySem.W.nsIn K mainGlobals dlaw.name = some (some (.ref f16))) (l16 : K.lookup f16 = some ⟨oc16, od16, .func (PySem.W.fnOf dlaw.name dlaw.name (defArgs dlaw.st) (defBody dlaw.st) (defScope dlaw.st) .none kV16 dc16 pm16 an16 cd16 ct16), sl16⟩) (c16 : PySem.W.codeIn K cd16 dlaw.name = true) (k16 : PySem.W.keepIn K (.ref f16) = true)
    (z0 : PySem.W.nsIn K mainGlobals "abs" = some none) (z1 : PySem.W.nsIn K mainGlobals "all" = some none) (z2 : PySem.W.nsIn K mainGlobals "bool" = some none) (z3 : PySem.W.nsIn K mainGlobals "int" = some none) (z4 : PySem.W.nsIn K mainGlobals "isinstance" = some none) (z5 : PySem.W.nsIn K mainGlobals "len" = some none) (z6 : PySem.W.nsIn K mainGlobals "list" = some none) (z7 : PySem.W.nsIn K mainGlobals "max" = some none) (z8 : PySem.W.nsIn K mainGlobals "min" = some none) (z9 : PySem.W.nsIn K mainGlobals "range" = some none) (z10 : PySem.W.nsIn K mainGlobals "repr" = some none) (z11 : PySem.W.nsIn K mainGlobals "sorted" = some none) (z12 : PySem.W.nsIn K mainGlobals "str" = some none) (z13 : PySem.W.nsIn K mainGlobals "tuple" = some none) (z14 : PySem.W.nsIn K mainGlobals "zip" = some none) :
    ∃ fd : FuncData, (∀ (s : Shared) (v : Value), BindsTo s fd ⟨[v], []⟩ [("_law_script", v)]) ∧ ∀ base : Heap, K.In base → base.Ns mainGlobals mg → FnG l.prog w K mg base 33 fa fd ["_law_script"] (spM K dLaw) := by
  have D0 := df_mk (d := dhulls) X G a0 l0 c0 k0 hb_dhulls hk_dhulls sc_dhulls (by decide) rfl (fun x i h => by cases h)
  have D1 := df_mk (d := d_box) X G a1 l1 c1 k1 hb_d_box hk_d_box sc_d_box (by decide) rfl (fun x i h => by cases h)
  have D2 := df_mk (d := d_take) X G a2 l2 c2 k2 hb_d_take hk_d_take sc_d_take (by decide) rfl (fun x i h => by cases h)
  have D3 := df_mk (d := d_pick) X G a3 l3 c3 k3 hb_d_pick hk_d_pick sc_d_pick (by decide) rfl (fun x i h => by cases h)
  have D4 := df_mk (d := d_same) X G a4 l4 c4 k4 hb_d_same hk_d_same sc_d_same (by decide) rfl (fun x i h => by cases h)
  have D5 := df_mk (d := d_lists) X G a5 l5 c5 k5 hb_d_lists hk_d_lists sc_d_lists (by decide) rfl (fun x i h => by cases h)
  have D6 := df_mk (d := d_shuffled) X G a6 l6 c6 k6 hb_d_shuffled hk_d_shuffled sc_d_shuffled (by decide) rfl (fun x i h => by cases h)
  have D7 := df_mk (d := d_gauges) X G a7 l7 c7 k7 hb_d_gauges hk_d_gauges sc_d_gauges (by decide) rfl (fun x i h => by cases h)
  have D8 := df_mk (d := d_span) X G a8 l8 c8 k8 hb_d_span hk_d_span sc_d_span (by decide) rfl (fun x i h => by cases h)
  have D9 := df_mk (d := d_plant) X G a9 l9 c9 k9 hb_d_plant hk_d_plant sc_d_plant (by decide) rfl (fun x i h => by cases h)
  have D10 := df_mk (d := d_fits) X G a10 l10 c10 k10 hb_d_fits hk_d_fits sc_d_fits (by decide) rfl (fun x i h => by cases h)
  have D11 := df_mk (d := d_store) X G a11 l11 c11 k11 hb_d_store hk_d_store sc_d_store (by decide) rfl (fun x i h => by cases h)
  have D12 := df_mk (d := d_after) X G a12 l12 c12 k12 hb_d_after hk_d_after sc_d_after (by decide) rfl (fun x i h => by cases h)
  have D13 := df_mk (d := d_deals) X G a13 l13 c13 k13 hb_d_deals hk_d_deals sc_d_deals (by decide) rfl (fun x i h => by cases h)
  have D14 := df_mk (d := d_wandered) X G a14 l14 c14 k14 hb_d_wandered hk_d_wandered sc_d_wandered (by decide) rfl (fun x i h => by cases h)
  have D15 := df_mk (d := d_right) X G a15 l15 c15 k15 hb_d_right hk_d_right sc_d_right (by decide) rfl (fun x i h => by cases h)
  have D16 := df_mk (d := dlaw) X G a16 l16 c16 k16 hb_dlaw hk_dlaw sc_dlaw (by decide) rfl (fun x i h => by cases h)
  have hd : ∀ d ∈ defs, DfOk K mg d := by
    unfold defs
    refine List.forall_mem_cons.mpr ⟨D0, ?_⟩
    refine List.forall_mem_cons.mpr ⟨D1, ?_⟩
    refine List.forall_mem_cons.mpr ⟨D2, ?_⟩
    refine List.forall_mem_cons.mpr ⟨D3, ?_⟩
    refine List.forall_mem_cons.mpr ⟨D4, ?_⟩
    refine List.forall_mem_cons.mpr ⟨D5, ?_⟩
    refine List.forall_mem_cons.mpr ⟨D6, ?_⟩
    refine List.forall_mem_cons.mpr ⟨D7, ?_⟩
    refine List.forall_mem_cons.mpr ⟨D8, ?_⟩
    refine List.forall_mem_cons.mpr ⟨D9, ?_⟩
    refine List.forall_mem_cons.mpr ⟨D10, ?_⟩
    refine List.forall_mem_cons.mpr ⟨D11, ?_⟩
    refine List.forall_mem_cons.mpr ⟨D12, ?_⟩
    refine List.forall_mem_cons.mpr ⟨D13, ?_⟩
    refine List.forall_mem_cons.mpr ⟨D14, ?_⟩
    refine List.forall_mem_cons.mpr ⟨D15, ?_⟩
    refine List.forall_mem_cons.mpr ⟨D16, ?_⟩
    exact fun _ h => nomatch h
  have hxs : ∀ r ∈ xs, ∃ C, ClOk K mg xs r C := by
    intro r hr
    have hr2 : r ∈ [] := hr
    cases hr2
  have hz : ∀ x ∈ blts, mg x = none := by
    unfold blts
    refine List.forall_mem_cons.mpr ⟨PySem.W.mg_none_of X G z0, ?_⟩
    refine List.forall_mem_cons.mpr ⟨PySem.W.mg_none_of X G z1, ?_⟩
    refine List.forall_mem_cons.mpr ⟨PySem.W.mg_none_of X G z2, ?_⟩
    refine List.forall_mem_cons.mpr ⟨PySem.W.mg_none_of X G z3, ?_⟩
    refine List.forall_mem_cons.mpr ⟨PySem.W.mg_none_of X G z4, ?_⟩
    refine List.forall_mem_cons.mpr ⟨PySem.W.mg_none_of X G z5, ?_⟩
    refine List.forall_mem_cons.mpr ⟨PySem.W.mg_none_of X G z6, ?_⟩
    refine List.forall_mem_cons.mpr ⟨PySem.W.mg_none_of X G z7, ?_⟩
    refine List.forall_mem_cons.mpr ⟨PySem.W.mg_none_of X G z8, ?_⟩
    refine List.forall_mem_cons.mpr ⟨PySem.W.mg_none_of X G z9, ?_⟩
    refine List.forall_mem_cons.mpr ⟨PySem.W.mg_none_of X G z10, ?_⟩
    refine List.forall_mem_cons.mpr ⟨PySem.W.mg_none_of X G z11, ?_⟩
    refine List.forall_mem_cons.mpr ⟨PySem.W.mg_none_of X G z12, ?_⟩
    refine List.forall_mem_cons.mpr ⟨PySem.W.mg_none_of X G z13, ?_⟩
    refine List.forall_mem_cons.mpr ⟨PySem.W.mg_none_of X G z14, ?_⟩
    exact fun _ h => nomatch h
  have hb : ∀ x, bl x = true → mg x = none := fun x h => hz x (by simpa [bl, List.contains_iff_mem] using h)
  have e := hfa.symm.trans (PySem.W.mg_of X G a16)
  cases e
  have F := fun_mk (st := dlaw.st) l16 c16 k16
  exact ⟨_, fun s v => .of_eq rfl, fun base _ _ => envD_ok (lvl := 40) hd hb hxs 30 dlaw (by simp [defs]) _ _ (PySem.W.mg_of X G a16) (.of F)⟩
theorem law_true (ns : List Int) (h : ns.length ≤ 63) : ∃ outs, dLaw [.dat (scr ns)] = some (.dat (.bool true), outs) := law_all ns h
end Lk21
open PySem PySem.W PyProof.Rows
set_option maxHeartbeats 0 in
theorem PySem.Challenge.cw_spindlefit_k21_hulls_holds : PySem.Challenge.rw_spindlefit_k21_hulls.Holds := by
  w_on; o_law; k_head; (case hw => w_witness2)
  k_fill
  refine Rf.walk_ofG (l := PySem.Challenge.rw_spindlefit_k21_hulls) (n := 63) (k := 33) (x := "_law_script") (D := Lk21.dLaw) rfl (by decide) rfl ⟨rfl, by decide, by decide⟩ (fun w h Y => PySem.W.kIn_of Y) ?F Lk21.law_true
  case F =>
    intro w mg fa h KX G hmg
    refine' Lk21.all_mk KX G hmg ?a0 ?l0 ?c0 ?k0 ?a1 ?l1 ?c1 ?k1 ?a2 ?l2 ?c2 ?k2 ?a3 ?l3 ?c3 ?k3 ?a4 ?l4 ?c4 ?k4 ?a5 ?l5 ?c5 ?k5 ?a6 ?l6 ?c6 ?k6 ?a7 ?l7 ?c7 ?k7 ?a8 ?l8 ?c8 ?k8 ?a9 ?l9 ?c9 ?k9 ?a10 ?l10 ?c10 ?k10 ?a11 ?l11 ?c11 ?k11 ?a12 ?l12 ?c12 ?k12 ?a13 ?l13 ?c13 ?k13 ?a14 ?l14 ?c14 ?k14 ?a15 ?l15 ?c15 ?k15 ?a16 ?l16 ?c16 ?k16 ?z0 ?z1 ?z2 ?z3 ?z4 ?z5 ?z6 ?z7 ?z8 ?z9 ?z10 ?z11 ?z12 ?z13 ?z14
    (case a0 => k_is); (case l0 => k_is); (case c0 => k_is); (case k0 => k_is)
    (case a1 => k_is); (case l1 => k_is); (case c1 => k_is); (case k1 => k_is)
    (case a2 => k_is); (case l2 => k_is); (case c2 => k_is); (case k2 => k_is)
    (case a3 => k_is); (case l3 => k_is); (case c3 => k_is); (case k3 => k_is)
    (case a4 => k_is); (case l4 => k_is); (case c4 => k_is); (case k4 => k_is)
    (case a5 => k_is); (case l5 => k_is); (case c5 => k_is); (case k5 => k_is)
    (case a6 => k_is); (case l6 => k_is); (case c6 => k_is); (case k6 => k_is)
    (case a7 => k_is); (case l7 => k_is); (case c7 => k_is); (case k7 => k_is)
    (case a8 => k_is); (case l8 => k_is); (case c8 => k_is); (case k8 => k_is)
    (case a9 => k_is); (case l9 => k_is); (case c9 => k_is); (case k9 => k_is)
    (case a10 => k_is); (case l10 => k_is); (case c10 => k_is); (case k10 => k_is)
    (case a11 => k_is); (case l11 => k_is); (case c11 => k_is); (case k11 => k_is)
    (case a12 => k_is); (case l12 => k_is); (case c12 => k_is); (case k12 => k_is)
    (case a13 => k_is); (case l13 => k_is); (case c13 => k_is); (case k13 => k_is)
    (case a14 => k_is); (case l14 => k_is); (case c14 => k_is); (case k14 => k_is)
    (case a15 => k_is); (case l15 => k_is); (case c15 => k_is); (case k15 => k_is)
    (case a16 => k_is); (case l16 => k_is); (case c16 => k_is); (case k16 => k_is)
    (case z0 => k_is); (case z1 => k_is); (case z2 => k_is); (case z3 => k_is); (case z4 => k_is); (case z5 => k_is); (case z6 => k_is); (case z7 => k_is); (case z8 => k_is); (case z9 => k_is); (case z10 => k_is); (case z11 => k_is); (case z12 => k_is); (case z13 => k_is); (case z14 => k_is)

